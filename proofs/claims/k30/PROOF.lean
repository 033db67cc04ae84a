import PyProof.Rows.All
import Wide.All
import OpenK.AllK
import Wide.FinOn
import KE.KStateDown
import HandS.ForMost
import HandS.IsInst
import HandS.Codes
import HandS.Exc
import HandS.Defaults
import HandS.Head0
import HandS.Head1
import HandS.Head2
import HandS.HeadEnd
import HandS.HeadHook1
import HandS.HeadHook2
import HandS.HeadHook3
import HandS.HeadHook4
import HandS.FStr
import HandS.Dict
import HandS.More
import Wide.Once
import KE.IntTextLaws
import PyProof.Rows.StrDigitsNeg
import HandS.Conv
import HandS.Wide
import HandS.Style
import HandS.Star
import HandS.TupAny
import PyProof.ReprRoads
import PyProof.ReprLen
import PyProof.P3Eq
import HandS.Walk
import HandS.Iter
import PyProof.DictMoreH
import HandS.CallLocal
import HandS.Text
import HandS.Lambda
import HandS.EndTab
import HandS.HeadWalk
import HandS.Property
import HandS.DictComp
import HandS.ExcOwn
import HandS.ExcIs
import HandS.TryOnly
import HandS.ExcInit
import KE.KExcSuper
import KE.KSuper
import HandS.ExcField
import KE.KExcIs
import HandS.Deep
import PySem.Challenge.RW_wayorring_k30_wrong_rows_of_papers
set_option Elab.async false
set_option linter.all false
set_option maxRecDepth 100000
set_option maxHeartbeats 8000000
/-! Wy: rules that take operands of several kinds, and steps. -/
namespace Wy
open PySem PySem.Spec PyProof.Rows L2
section
variable {X : Cx}
theorem CallR.or {f : Value} {r r' : List V → Hp → VK → Prop} (h : CallR X f r) (h' : CallR X f r') : CallR X f (fun xs H Q => r xs H Q ∨ r' xs H Q) := by
  intro pins s σ H xs us Q I rv q
  rcases q with q | q
  · exact h pins s σ H xs us Q I rv q
  · exact h' pins s σ H xs us Q I rv q
/-- k times a text -/
def repS (z : Str) (k : Int) : Str := ⟨(List.replicate k.toNat z.cps.toList).flatten.toArray⟩
theorem foldl_rep (a : Array Nat) : ∀ (n : Nat) (acc : Array Nat), ((List.replicate n a).foldl (· ++ ·) acc) = (acc.toList ++ (List.replicate n a.toList).flatten).toArray
  | 0, acc => by simp
  | n + 1, acc => by
    rw [List.replicate_succ, List.foldl_cons, foldl_rep a n, List.replicate_succ, List.flatten_cons]
    simp
theorem repS_eq (z : Str) (n : Int) : (⟨(List.replicate n.toNat z.cps).foldl (· ++ ·) #[]⟩ : Str) = repS z n := by
  unfold repS
  rw [foldl_rep]
  simp
def rMulSI : R2 := fun x y H Q => ∃ z k, x = .str z ∧ y = .int k ∧ 0 ≤ k ∧ k ≤ 1000 ∧ z.length ≤ 1000 ∧ Q (.str (repS z k)) H
theorem op_mulSI : OpR X (binaryOp .Mult) rMulSI := by
  intro pins s σ H x y v u Q I rx ry h
  obtain ⟨z, k, rfl, rfl, h0, h1, h2, q⟩ := h
  obtain ⟨t, rfl⟩ := rx
  obtain ⟨t', rfl⟩ := ry
  have hs : sizeLine = 16777216 := sizeLine_eq
  refine PySem.P.mul_str ?_ (fun a b => ?_) (fun a b => ?_) ?_
  · rw [decide_eq_false (by omega), decide_eq_false (by omega)]
    rfl
  · have h3 : (1000 : Int) ≤ (2 ^ 63 - 1) / k := (Int.le_ediv_iff_mul_le (by omega)).mpr (by omega)
    omega
  · unfold Builtin.Str.tooLong
    rw [decide_eq_false_iff_not]
    have h4 : z.length * k.toNat ≤ 1000 * 1000 := Nat.mul_le_mul h2 (by omega)
    omega
  · by_cases a : k < 1
    · have ek : k = 0 := by omega
      subst ek
      rw [if_pos a]
      have e : repS z 0 = Str.empty := rfl
      rw [e] at q
      exact ⟨by decide, .str Str.empty, H, I.tok _, ⟨_, rfl⟩, q⟩
    · rw [if_neg a]
      by_cases b : (k == 1 || z.length == 0) = true
      · rw [if_pos b]
        have e : repS z k = z := by
          rcases Bool.or_eq_true_iff.mp b with b | b
          · have e1 : k = 1 := by simpa using b
            subst e1
            unfold repS
            simp
          · have e1 : z.length = 0 := by simpa using b
            have e2 : z.cps = #[] := by simpa [Str.length] using e1
            obtain ⟨c⟩ := z
            unfold repS
            simp at e2
            subst e2
            simp
        rw [e] at q
        exact ⟨.str z, H, I, ⟨_, rfl⟩, q⟩
      · rw [if_neg b, repS_eq]
        refine ⟨?_, .str (repS z k), H, I.tok _, ⟨_, rfl⟩, q⟩
        have h4 : (repS z k).length = k.toNat * z.length := by
          unfold repS
          simp [Str.length, List.length_flatten, List.map_replicate, List.sum_replicate_nat]
        rw [h4]
        have h5 : k.toNat * z.length ≤ 1000 * 1000 := Nat.mul_le_mul (by omega) h2
        omega
/-- + of two ints, two texts, two lists -/
def rAddS : R2 := fun x y H Q => ∃ i j, x = .str i ∧ y = .str j ∧ i.length + j.length ≤ sizeLine ∧ Q (.str (i ++ j)) H
def rAddI : R2 := rI0 fun i j => .int (i + j)
def rAdd3 : R2 := fun x y H Q => rAddI x y H Q ∨ rAddS x y H Q ∨ rCat x y H Q
theorem op_add3 : OpR X (binaryOp .Add) rAdd3 := op_add.or (op_add_str.or op_cat)
def rMul2 : R2 := fun x y H Q => rI CMul (fun i j => .int (i * j)) x y H Q ∨ rMulSI x y H Q
theorem op_mul2 : OpR X (binaryOp .Mult) rMul2 := op_mul.or op_mulSI
/-- == -/
def rEq2 (K : PySem.W.Frag) : R2 := fun x y H Q => rEq x y H Q ∨ rEqD K x y H Q
theorem op_eq2 (hu : X.A.units + 64 < cLine) : OpR X (compareOp .Eq) (rEq2 X.K) := op_eq.or (op_eqD hu)
def rNe2 (K : PySem.W.Frag) : R2 := fun x y H Q => rNe x y H Q ∨ rNeD K x y H Q
theorem op_ne2 (hu : X.A.units + 64 < cLine) : OpR X (compareOp .NotEq) (rNe2 X.K) := op_ne.or (op_neD hu)
/-- in: a sign in a text; a flat item in a list or tuple -/
def rInS : R2 := fun x y H Q => ∃ (c : Nat) (z : Str), x = .str ⟨#[c]⟩ ∧ y = .str z ∧ Q (.bl (decide (c ∈ z.cps.toList))) H
def rNiS : R2 := fun x y H Q => ∃ (c : Nat) (z : Str), x = .str ⟨#[c]⟩ ∧ y = .str z ∧ Q (.bl (!decide (c ∈ z.cps.toList))) H
def rIn2 (K : PySem.W.Frag) : R2 := fun x y H Q => rInS x y H Q ∨ rIn K false x y H Q
def rNi2 (K : PySem.W.Frag) : R2 := fun x y H Q => rNiS x y H Q ∨ rIn K true x y H Q
theorem op_in2 : OpR X (compareOp .In) (rIn2 X.K) := op_in_sign.or op_in_seq
theorem op_ni2 : OpR X (compareOp .NotIn) (rNi2 X.K) := op_notIn_sign.or op_notIn_seq
def rSl2 (K : PySem.W.Frag) : V → Option Int → Option Int → Hp → VK → Prop := fun x lo hi H Q => rSlS x lo hi H Q ∨ rSlL K x lo hi H Q
theorem sl_2 : SlR X (rSl2 X.K) := sl_str.or sl_list
def rInt : List V → Hp → VK → Prop := fun xs H Q => ((∃ i, xs = [.int i] ∧ Q (.int i) H) ∨ ∃ k, xs = [.bl k] ∧ Q (.int (if k then 1 else 0)) H) ∨ ∃ a n, xs = [.str a] ∧ PySem.intText? a = some n ∧ a.length ≤ 640 ∧ Q (.int n) H
theorem call_int2 : CallR X (.type "int") rInt := CallR.or call_int1 call_int_str
def rAbs : List V → Hp → VK → Prop := fun xs H Q => ∃ i, xs = [.int i] ∧ Q (.int (if i < 0 then -i else i)) H
theorem call_abs2 : CallR X (.builtin "abs") rAbs := call_abs
def rLn (K : PySem.W.Frag) : List V → Hp → VK → Prop := fun xs H Q => ∃ x n, xs = [x] ∧ LenV K x H n ∧ Q (.int n) H
theorem call_len2 : CallR X (.builtin "len") (rLn X.K) := call_len
def tTr (K : PySem.W.Frag) (ta : TE) : TT := fun σ H Q => ta σ H fun x H' => ∃ k, TruV K x H' k ∧ Q k H'
theorem pt_tr {e : Expr} {te : TE} (h : PE X e te) (he : ∀ whole, isTrue e X.env whole = (do let v ← whole; standAt e.pos; holding [v] (truthy v)) := by intro _; rfl) : PT X e (tTr X.K te) := pt_truth h he
end

/-! ### what a heap keeps -/
/-- only at l -/
def Chg (l : Addr) (H H' : Hp) : Prop := ∀ b, b ≠ l → H' b = H b
theorem same_new {H : Hp} {p : Addr} {o : HO} (h : H p = none) : Same H (upd H p o) := fun b x e => by
  rw [upd_ne (ne_of_none e h)]
  exact e
theorem chg_upd {H : Hp} {p : Addr} {o : HO} : Chg p H (upd H p o) := fun b e => by rw [upd_ne e]
theorem Chg.same {l : Addr} {H0 H H' : Hp} (c : Chg l H H') (s : Same H0 H) (n : H0 l = none) : Same H0 H' := fun b o e => by
  rw [c b (ne_of_none e n)]
  exact s b o e
theorem Chg.at {l b : Addr} {H H' : Hp} {o : HO} (c : Chg l H H') (e : H b = some o) (n : b ≠ l) : H' b = some o := by
  rw [c b n]
  exact e
theorem new_same {H : Hp} {o : HO} {Q : VK} (h : ∀ p H2, H p = none → Same H H2 → H2 p = some o → Q (.ref p) H2) : ∀ p, H p = none → Q (.ref p) (upd H p o) :=
  fun p np => h p _ np (same_new np) upd_same
theorem lst_of {K : PySem.W.Frag} {H : Hp} {a : Addr} {xs : List V} (h : H a = some (.lst xs)) : SqL K H a xs := .inl (.inl h)
theorem tup_of {K : PySem.W.Frag} {H : Hp} {a : Addr} {xs : List V} (h : H a = some (.tup xs)) : SqT K H a xs := .inl (.inl h)
theorem seqT {K : PySem.W.Frag} {H H' : Hp} {a : Addr} {xs : List V} (e : Same H H') (h : SqT K H a xs) : SqT K H' a xs := by
  rcases h with (h | ⟨o, h⟩) | h
  · exact .inl (.inl (e _ _ h))
  · exact .inl (.inr ⟨o, e _ _ h⟩)
  · exact .inr h
/-! ### steps -/
def KBl (x : V) (H : Hp) (QT : Bool → Hp → Prop) : Prop := ∃ k, x = .bl k ∧ QT k H
def KTr (K : PySem.W.Frag) (x : V) (H : Hp) (QT : Bool → Hp → Prop) : Prop := ∃ k, TruV K x H k ∧ QT k H
def KInt (x : V) (H : Hp) (QO : Option Int → Hp → Prop) : Prop := ∃ i, x = .int i ∧ QO (some i) H
def KR1 (vs : List V) (H : Hp) (R : It → Hp → Prop) : Prop := ∃ j : Int, vs = [.int j] ∧ -(2 ^ 62) ≤ j ∧ j < 2 ^ 62 ∧ R (Itr 0 j.toNat) H
def KR2 (vs : List V) (H : Hp) (R : It → Hp → Prop) : Prop := ∃ i j : Int, vs = [.int i, .int j] ∧ (-(2 ^ 62) ≤ i ∧ i < 2 ^ 62 ∧ -(2 ^ 62) ≤ j ∧ j < 2 ^ 62) ∧ R (Itr i (j - i).toNat) H
def KL (K : PySem.W.Frag) (x : V) (H : Hp) (R : It → Hp → Prop) : Prop := ∃ a, x = .ref a ∧ (∃ xs, SqL K H a xs) ∧ R (Itl K a) H
def KT (K : PySem.W.Frag) (x : V) (H : Hp) (R : It → Hp → Prop) : Prop := ∃ a, x = .ref a ∧ (∃ xs, SqT K H a xs) ∧ R (Itt K a) H
def KS (x : V) (H : Hp) (R : It → Hp → Prop) : Prop := ∃ z, x = .str z ∧ R (Its z) H
def NewO (n : Nat) (o : HO) (H : Hp) (Q : VK) : Prop := n ≤ sizeLine ∧ ∀ p, H p = none → Q (.ref p) (upd H p o)
def COut (D : Addr) (y : V) (H : Hp) (N : Hp → Prop) : Prop := ∃ acc, H D = some (.lst acc) ∧ acc.length < sizeLine ∧ N (upd H D (.lst (acc ++ [y])))
def KWh (W : Nat → L2.St → Hp → Prop) (m : Nat) (t : TS) (D : Ends) (σ : L2.St) (H : Hp) : Prop := ∃ N : L2.St → Hp → Prop, (∀ σ' H', N σ' H' → ∃ m', m' < m ∧ W m' σ' H') ∧ t ⟨N, D.rt, D.nx, N⟩ σ H
section
variable {K : PySem.W.Frag} {σ : L2.St} {H : Hp} {Q : VK} {QT : Bool → Hp → Prop} {D : Ends} {t u : TS} {c c' : TT} {te ta tb : TE} {g : TG} {v x y : V} {i : Nat} {b : Bool} {QA : List V → Hp → Prop}
theorem s_seq (h : t ⟨u D, D.rt, D.bk, D.ct⟩ σ H) : tSeq t u D σ H := h
theorem s_asg (h : te σ H fun x H1 => g x σ H1 D.nx) : tAsg te g D σ H := h
theorem g_name {QS : L2.St → Hp → Prop} (h : QS (σ.set i (some v)) H) : gName i v σ H QS := h
theorem s_ret (h : te σ H D.rt) : tRet te D σ H := h
theorem s_retN (h : D.rt .non H) : tRetN D σ H := h
theorem s_drop (h : te σ H fun _ H1 => D.nx σ H1) : tDrop te D σ H := h
theorem s_if (h : c σ H fun b H1 => if b = true then t D σ H1 else u D σ H1) : tIfS c t u D σ H := h
theorem s_next (h : D.nx σ H) : tNext D σ H := h
theorem s_brk (h : D.bk σ H) : tBreak D σ H := h
theorem s_ct (h : D.ct σ H) : tCont D σ H := h
theorem s_aug {ti : TIp} (e : σ[i]? = some (some x)) (h : te σ H fun y H1 => ti x y H1 fun z H2 => D.nx (σ.set i (some z)) H2) : tAug i te ti D σ H := ⟨x, e, h⟩
theorem i_add {i j : Int} {f : Int → Int → Int} (h : Q (.int (f i j)) H) : ipI f (.int i) (.int j) H Q := ⟨i, j, rfl, rfl, h⟩
theorem s_cut (M : L2.St → Hp → Prop) (h : t ⟨M, D.rt, D.bk, D.ct⟩ σ H) (k : ∀ σ' H', M σ' H' → u D σ' H') : C8.tCut t u D σ H := ⟨M, h, k⟩
theorem e_var (e : σ[i]? = some (some v)) (h : Q v H) : tVar i σ H Q := ⟨v, e, h⟩
theorem e_c (h : Q v H) : tC v σ H Q := h
theorem e_op {r : R2} (h : ta σ H fun x H1 => tb σ H1 fun y H2 => r x y H2 Q) : tOp r ta tb σ H Q := h
theorem e_un {r : V → Hp → VK → Prop} (h : ta σ H fun x H1 => r x H1 Q) : tUn r ta σ H Q := h
theorem o_addI {i j : Int} (h : Q (.int (i + j)) H) : rAdd3 (.int i) (.int j) H Q := .inl ⟨i, j, rfl, rfl, h⟩
theorem o_addS {i j : Str} (hz : i.length + j.length ≤ sizeLine) (h : Q (.str (i ++ j)) H) : rAdd3 (.str i) (.str j) H Q := .inr (.inl ⟨i, j, rfl, rfl, hz, h⟩)
theorem o_addL {a a' : Addr} {xs ys : List V} (ha : H a = some (.lst xs)) (hb : H a' = some (.lst ys)) (hz : xs.length + ys.length ≤ sizeLine) (h : ∀ p H2, H p = none → Same H H2 → H2 p = some (.lst (xs ++ ys)) → Q (.ref p) H2) :
    rAdd3 (.ref a) (.ref a') H Q := .inr (.inr ⟨a, a', xs, ys, rfl, rfl, ha, hb, hz, new_same h⟩)
theorem o_mulI {i j : Int} (hc : CMul i j) (h : Q (.int (i * j)) H) : rMul2 (.int i) (.int j) H Q := .inl ⟨i, j, rfl, rfl, hc, h⟩
theorem o_mulI1 {i j : Int} (h1 : -(2 ^ 64) < i) (h2 : i < 2 ^ 64) (h : Q (.int (i * j)) H) : rMul2 (.int i) (.int j) H Q := o_mulI (.inl ⟨h1, h2⟩) h
theorem o_mulI2 {i j : Int} (h1 : -(2 ^ 64) < j) (h2 : j < 2 ^ 64) (h : Q (.int (i * j)) H) : rMul2 (.int i) (.int j) H Q := o_mulI (.inr ⟨h1, h2⟩) h
theorem o_mod {f : Int → Int → V} {i j : Int} (h1 : 0 < j) (h : Q (f i j) H) : rI (fun _ j => 0 < j) f (.int i) (.int j) H Q := ⟨i, j, rfl, rfl, h1, h⟩
theorem o_fdiv {f : Int → Int → V} {i j : Int} (h1 : 0 < j) (h2 : j < 1073741824) (h : Q (f i j) H) : rI CDiv f (.int i) (.int j) H Q := ⟨i, j, rfl, rfl, ⟨h1, h2⟩, h⟩
theorem o_pow {f : Int → Int → V} {i j : Int} (h1 : 0 ≤ j) (h2 : j ≤ 1000000) (h3 : i.natAbs < 2 ^ 64) (h : Q (f i j) H) : rI CPow f (.int i) (.int j) H Q := ⟨i, j, rfl, rfl, ⟨h1, h2, h3⟩, h⟩
theorem o_mulS {z : Str} {k : Int} (h0 : 0 ≤ k) (h1 : k ≤ 1000) (h2 : z.length ≤ 1000) (h : Q (.str (repS z k)) H) : rMul2 (.str z) (.int k) H Q := .inr ⟨z, k, rfl, rfl, h0, h1, h2, h⟩
theorem o_I0 {f : Int → Int → V} {i j : Int} (h : Q (f i j) H) : rI0 f (.int i) (.int j) H Q := ⟨i, j, rfl, rfl, h⟩
theorem o_I {C : Int → Int → Prop} {f : Int → Int → V} {i j : Int} (hc : C i j) (h : Q (f i j) H) : rI C f (.int i) (.int j) H Q := ⟨i, j, rfl, rfl, hc, h⟩
theorem o_eqS (hs : scal x y = true) (h : Q (.bl (decide (x = y))) H) : rEq2 K x y H Q := .inl ⟨hs, h⟩
theorem o_neS (hs : scal x y = true) (h : Q (.bl (!decide (x = y))) H) : rNe2 K x y H Q := .inl ⟨hs, h⟩
theorem o_eqD {d e : PyData} (h1 : Dp K H x d) (h2 : Dp K H y e) (h3 : SeqAt.shaped d = true) (h4 : SeqAt.shaped e = true) (h : Q (.bl (PyData.eqv d e)) H) : rEq2 K x y H Q := .inr ⟨d, e, h1, h2, h3, h4, h⟩
theorem o_neD {d e : PyData} (h1 : Dp K H x d) (h2 : Dp K H y e) (h3 : SeqAt.shaped d = true) (h4 : SeqAt.shaped e = true) (h : Q (.bl (!PyData.eqv d e)) H) : rNe2 K x y H Q := .inr ⟨d, e, h1, h2, h3, h4, h⟩
theorem o_inS {k : Nat} {z : Str} (h : Q (.bl (decide (k ∈ z.cps.toList))) H) : rIn2 K (.str ⟨#[k]⟩) (.str z) H Q := .inl ⟨k, z, rfl, rfl, h⟩
theorem o_niS {k : Nat} {z : Str} (h : Q (.bl (!decide (k ∈ z.cps.toList))) H) : rNi2 K (.str ⟨#[k]⟩) (.str z) H Q := .inl ⟨k, z, rfl, rfl, h⟩
theorem o_inT {a : Addr} {xs : List V} (hs : SqT K H a xs) (hf : flatV x = true) (hg : xs.all flatV = true) (h : Q (.bl (inV x xs)) H) : rIn2 K x (.ref a) H Q := .inr ⟨a, xs, rfl, .inr hs, hf, hg, h⟩
theorem o_inL {a : Addr} {xs : List V} (hs : SqL K H a xs) (hf : flatV x = true) (hg : xs.all flatV = true) (h : Q (.bl (inV x xs)) H) : rIn2 K x (.ref a) H Q := .inr ⟨a, xs, rfl, .inl hs, hf, hg, h⟩
theorem o_niT {a : Addr} {xs : List V} (hs : SqT K H a xs) (hf : flatV x = true) (hg : xs.all flatV = true) (h : Q (.bl (!inV x xs)) H) : rNi2 K x (.ref a) H Q := .inr ⟨a, xs, rfl, .inr hs, hf, hg, h⟩
theorem o_niL {a : Addr} {xs : List V} (hs : SqL K H a xs) (hf : flatV x = true) (hg : xs.all flatV = true) (h : Q (.bl (!inV x xs)) H) : rNi2 K x (.ref a) H Q := .inr ⟨a, xs, rfl, .inl hs, hf, hg, h⟩
def rIsN : R2 := fun x y H Q => y = .non ∧ Q (.bl (decide (x = .non))) H
def rNtN : R2 := fun x y H Q => y = .non ∧ Q (.bl (!decide (x = .non))) H
theorem op_isN2 {X : Cx} : OpR X (compareOp .Is) rIsN := op_isN
theorem op_ntN2 {X : Cx} : OpR X (compareOp .IsNot) rNtN := op_notN
theorem o_isN (h : Q (.bl (decide (x = .non))) H) : rIsN x .non H Q := ⟨rfl, h⟩
theorem o_ntN (h : Q (.bl (!decide (x = .non))) H) : rNtN x .non H Q := ⟨rfl, h⟩
theorem o_ixL {a : Addr} {xs : List V} {j : Int} (hs : SqL K H a xs) (e : atI xs j = some v) (h : Q v H) : rIx K (.ref a) (.int j) H Q := .inl ⟨a, xs, j, v, rfl, rfl, hs, e, h⟩
theorem o_ixT {a : Addr} {xs : List V} {j : Int} (hs : SqT K H a xs) (e : atI xs j = some v) (h : Q v H) : rIx K (.ref a) (.int j) H Q := .inr (.inl ⟨a, xs, j, v, rfl, rfl, hs, e, h⟩)
theorem o_ixS {z : Str} {j : Int} {k : Nat} (hz : z.length ≤ sizeLine) (e : atI z.cps.toList j = some k) (h : Q (.str ⟨#[k]⟩) H) : rIx K (.str z) (.int j) H Q := .inr (.inr ⟨z, j, k, rfl, rfl, hz, e, h⟩)
theorem u_neg {i : Int} {f : Int → V} (h : Q (f i) H) : rU f (.int i) H Q := ⟨i, rfl, h⟩
theorem t_test (h : te σ H fun x H' => KBl x H' QT) : tTest te σ H QT := h
theorem t_b (h : te σ H fun x H' => KBl x H' QT) : tB te σ H QT := h
theorem k_bl (h : QT b H) : KBl (.bl b) H QT := ⟨b, rfl, h⟩
theorem t_tr (h : te σ H fun x H' => KTr K x H' QT) : tTr K te σ H QT := h
theorem k_trB (h : QT b H) : KTr K (.bl b) H QT := ⟨b, rfl, h⟩
theorem k_trN (h : QT false H) : KTr K .non H QT := ⟨false, rfl, h⟩
theorem k_trI {i : Int} (h : QT (i != 0) H) : KTr K (.int i) H QT := ⟨_, rfl, h⟩
theorem k_trL {a : Addr} {xs : List V} (hs : SqL K H a xs) (h : QT (!xs.isEmpty) H) : KTr K (.ref a) H QT := ⟨_, .inl ⟨xs, hs, rfl⟩, h⟩
theorem k_trT {a : Addr} {xs : List V} (hs : SqT K H a xs) (h : QT (!xs.isEmpty) H) : KTr K (.ref a) H QT := ⟨_, .inr (.inl ⟨xs, hs, rfl⟩), h⟩
theorem t_and (h : c σ H fun b H1 => if b = true then c' σ H1 QT else QT false H1) : tAnd c c' σ H QT := h
theorem t_or (h : c σ H fun b H1 => if b = true then QT true H1 else c' σ H1 QT) : tOr c c' σ H QT := h
theorem t_not (h : c σ H fun b H1 => QT (!b) H1) : tNot c σ H QT := h
theorem e_andV (h : ta σ H fun x H1 => KBl x H1 fun b H2 => if b = true then tb σ H2 Q else Q (.bl false) H2) : tAndV ta tb σ H Q := h
theorem e_orV (h : ta σ H fun x H1 => KBl x H1 fun b H2 => if b = true then Q (.bl true) H2 else tb σ H2 Q) : tOrV ta tb σ H Q := h
theorem e_notV (h : ta σ H fun x H1 => KBl x H1 fun b H2 => Q (.bl (!b)) H2) : tNotV ta σ H Q := h
theorem e_if (h : c σ H fun b H1 => if b = true then ta σ H1 Q else tb σ H1 Q) : tIf c ta tb σ H Q := h
theorem e_chain {r r' : R2} {tc : TE} (h : ta σ H fun x H1 => tb σ H1 fun y H2 => r x y H2 fun z H3 => KBl z H3 fun k H3 => if k = true then tc σ H3 fun w' H4 => r' y w' H4 Q else Q (.bl false) H3) : tChain r r' ta tb tc σ H Q := h
theorem a_nil (h : QA [] H) : tNil σ H QA := h
theorem a_cons {tr : TA} (h : te σ H fun x H1 => tr σ H1 fun xs H2 => QA (x :: xs) H2) : tCons te tr σ H QA := h
theorem c_b {r : List V → Hp → VK → Prop} {tl : TA} (h : tl σ H fun vs H1 => r vs H1 Q) : tCB r tl σ H Q := h
theorem c_call {sp : Sp} {dvs : List V} {E : XK} {tl : TA} (h : tl σ H fun vs H1 => sp (vs ++ dvs) H1 Q E) : tCall sp dvs E tl σ H Q := h
theorem b_lenS {z : Str} (hz : z.length ≤ sizeLine) (h : Q (.int z.length) H) : rLn K [.str z] H Q := ⟨_, z.length, rfl, ⟨hz, rfl⟩, h⟩
theorem b_lenL {a : Addr} {xs : List V} (hs : SqL K H a xs) (h : Q (.int xs.length) H) : rLn K [.ref a] H Q := ⟨_, xs.length, rfl, .inl ⟨xs, hs, rfl⟩, h⟩
theorem b_lenT {a : Addr} {xs : List V} (hs : SqT K H a xs) (h : Q (.int xs.length) H) : rLn K [.ref a] H Q := ⟨_, xs.length, rfl, .inr ⟨xs, hs, rfl⟩, h⟩
theorem b_int {i : Int} (h : Q (.int i) H) : rInt [.int i] H Q := .inl (.inl ⟨i, rfl, h⟩)
theorem b_intB (h : Q (.int (if b then 1 else 0)) H) : rInt [.bl b] H Q := .inl (.inr ⟨b, rfl, h⟩)
theorem b_intS {z : Str} {n : Int} (e : PySem.intText? z = some n) (hl : z.length ≤ 640) (h : Q (.int n) H) : rInt [.str z] H Q := .inr ⟨z, n, rfl, e, hl, h⟩
theorem b_abs {i : Int} (h : Q (.int (if i < 0 then -i else i)) H) : rAbs [.int i] H Q := ⟨i, rfl, h⟩
theorem b_isi {n : String} {x : V} {tv : Value} (ty : TyX K H x tv) (h : PySem.W.kitOne K tv (.type n) = some b) (q : Q (.bl b) H) : rIsi K [x, .ty n] H Q := ⟨x, .ty n, tv, .type n, b, rfl, .ty n, ty, h, q⟩
theorem e_tup {tl : TA} (h : tl σ H fun xs H1 => NewO xs.length (.tup xs) H1 Q) : tTup tl σ H Q := h
theorem e_lst {tl : TA} (h : tl σ H fun xs H1 => NewO xs.length (.lst xs) H1 Q) : tLst tl σ H Q := h
theorem n_obj {n : Nat} {o : HO} (hz : n ≤ sizeLine) (h : ∀ p H2, H p = none → Same H H2 → H2 p = some o → Q (.ref p) H2) : NewO n o H Q := ⟨hz, new_same h⟩
theorem e_sl {r : V → Option Int → Option Int → Hp → VK → Prop} {tl th : TO} (h : te σ H fun x H1 => tl σ H1 fun l H2 => th σ H2 fun u H3 => r x l u H3 Q) : tSl r te tl th σ H Q := h
theorem p_no {QO : Option Int → Hp → Prop} (h : QO none H) : tNoPart σ H QO := h
theorem p_so {QO : Option Int → Hp → Prop} (h : te σ H fun x H1 => KInt x H1 QO) : tPart te σ H QO := h
theorem k_int {i : Int} {QO : Option Int → Hp → Prop} (h : QO (some i) H) : KInt (.int i) H QO := ⟨i, rfl, h⟩
theorem l_S {z : Str} {lo hi : Option Int} (hz : z.length ≤ sizeLine) (h : Q (.str (cutS z lo hi)) H) : rSl2 K (.str z) lo hi H Q := .inl ⟨z, rfl, hz, h⟩
theorem l_L {a : Addr} {xs : List V} {lo hi : Option Int} (hs : SqL K H a xs) (h : ∀ p H2, H p = none → Same H H2 → H2 p = some (.lst (cutV xs lo hi)) → Q (.ref p) H2) : rSl2 K (.ref a) lo hi H Q := .inr ⟨a, xs, rfl, hs, new_same h⟩
/-- o.m(..), m of a built-in type -/
theorem m_bm {T : String} {r : V → List V → Hp → VK → Prop} {tl : TA} (h : te σ H fun x H1 => tyV K T x H1 ∧ tl σ H1 fun xs H2 => r x xs H2 Q) : tBM K T r te tl σ H Q := h
theorem m_ty {a : Addr} {xs : List V} {P : Prop} (hs : SqL K H a xs) (h : P) : tyV K "list" (.ref a) H ∧ P := ⟨.inl ⟨rfl, xs, hs⟩, h⟩
theorem m_app {a : Addr} {xs : List V} (e : H a = some (.lst xs)) (hz : xs.length < sizeLine) (h : ∀ H2, Chg a H H2 → H2 a = some (.lst (xs ++ [y])) → Q .non H2) : rAppend (.ref a) [y] H Q := ⟨a, xs, y, rfl, rfl, e, hz, h _ chg_upd upd_same⟩
theorem g_sub {to ti : TE} {ts : TSet} {QS : L2.St → Hp → Prop} (h : to σ H fun o H1 => ti σ H1 fun i H2 => ts o i v H2 fun H3 => QS σ H3) : gSub to ti ts v σ H QS := h
theorem st_L {a : Addr} {xs : List V} {k : Int} {j : Nat} {QH : Hp → Prop} (e : H a = some (.lst xs)) (hj : ixN xs.length k = some j) (h : ∀ H2, Chg a H H2 → H2 a = some (.lst (xs.set j v)) → QH H2) : rSetL (.ref a) (.int k) v H QH := ⟨a, xs, k, j, rfl, rfl, e, hj, h _ chg_upd upd_same⟩
theorem m_m1 {r : V → List V → Hp → VK → Prop} (h : te σ H fun x H1 => (∃ a, x = .str a) ∧ ta σ H1 fun y H2 => r x [y] H2 Q) : tM1 r te ta σ H Q := h
theorem m_st {z : Str} {P : Prop} (h : P) : (∃ a, V.str z = .str a) ∧ P := ⟨⟨z, rfl⟩, h⟩
def rJoin (K : PySem.W.Frag) : V → List V → Hp → VK → Prop := fun x xs H Q => ∃ a p, ∃ ys : List Str, x = .str a ∧ xs = [.ref p] ∧ (SqL K H p (ys.map V.str) ∨ SqT K H p (ys.map V.str)) ∧
  (ys.map (·.length)).sum + ys.length * a.length ≤ 16777216 ∧ Q (.str (Txt.join a ys)) H
theorem pe_join2 {X : Cx} {o e : Expr} {to te : TE} {apos pos : Pos} (ho : PE X o to) (he : PE X e te) (hs : starEach [e] X.env = [(false, eval e X.env)] := by rfl) (hbase : attributeBase o "join" X.env (eval o X.env) = eval o X.env := by rfl) (hline : (apos.endLine == pos.line) = true := by rfl) :
    PE X (.Call (.Attribute o "join" apos) [e] [] pos) (tM1 (rJoin X.K) to te) := pe_join ho he hs hbase hline
theorem m_join {z : Str} {a : Addr} {ys : List Str} (hs : SqL K H a (ys.map V.str)) (hz : (ys.map (·.length)).sum + ys.length * z.length ≤ 16777216) (h : Q (.str (Txt.join z ys)) H) : rJoin K (.str z) [.ref a] H Q := ⟨z, a, ys, rfl, rfl, .inl hs, hz, h⟩
/-! ### loops -/
def LoopF (J : It) (g : TG) (tb : TS) (D : Ends) (σ : L2.St) (H : Hp) : Prop := ∃ W : Nat → Nat → L2.St → Hp → Prop, (∃ m, W 0 m σ H) ∧ ∀ i m σ H, W i m σ H →
  (J.stop i H ∧ D.nx σ H) ∨ (J.go i H ∧ ∃ N : L2.St → Hp → Prop, (∀ σ' H', N σ' H' → ∃ m', m' < m ∧ W (i + 1) m' σ' H') ∧ ∀ x H', J.yld i H x H' → g x σ H' fun σ2 H2 => tb { D with nx := N, ct := N, bk := D.nx } σ2 H2)
theorem s_for {wi : TI} (h : wi σ H fun J H1 => LoopF J g t D σ H1) : tFor wi g t D σ H := h
def LoopC (J : It) (g : TG) (tt : TT) (te : TE) (vs : List Nat) (σ : L2.St) (H1 : Hp) (Q : VK) : Prop := ∀ D, H1 D = none → ∃ W : Nat → Nat → Hp → Prop, (∃ m, W 0 m (upd H1 D (.lst []))) ∧ ∀ i m H, W i m H →
  (J.stop i H ∧ Q (.ref D) H) ∨ (J.go i H ∧ ∃ Nx : Hp → Prop, (∀ H', Nx H' → ∃ m', m' < m ∧ W (i + 1) m' H') ∧ ∀ x H', J.yld i H x H' → g x (wipe σ vs) H' fun σ2 H2 => wipe σ2 vs = wipe σ vs ∧ tt σ2 H2 fun b H3 =>
    if b = true then te σ2 H3 fun y H4 => ∃ acc, H4 D = some (.lst acc) ∧ acc.length < sizeLine ∧ Nx (upd H4 D (.lst (acc ++ [y]))) else Nx H3)
theorem e_lc {wi : TI} {tt : TT} {vs : List Nat} (h : wi σ H fun J H1 => LoopC J g tt te vs σ H1 Q) : tLc wi g tt te vs σ H Q := h
theorem t_yes (h : QT true H) : tYes σ H QT := h
theorem w_r1 {tl : TA} {R : It → Hp → Prop} (h : tl σ H fun vs H1 => KR1 vs H1 R) : iRng1 tl σ H R := h
theorem w_r2 {tl : TA} {R : It → Hp → Prop} (h : tl σ H fun vs H1 => KR2 vs H1 R) : iRng2 tl σ H R := h
theorem k_r1 {j : Int} {R : It → Hp → Prop} (h1 : -(2 ^ 62) ≤ j) (h2 : j < 2 ^ 62) (h : R (Itr 0 j.toNat) H) : KR1 [.int j] H R := ⟨j, rfl, h1, h2, h⟩
theorem k_r2 {i j : Int} {R : It → Hp → Prop} (h1 : -(2 ^ 62) ≤ i ∧ i < 2 ^ 62 ∧ -(2 ^ 62) ≤ j ∧ j < 2 ^ 62) (h : R (Itr i (j - i).toNat) H) : KR2 [.int i, .int j] H R := ⟨i, j, rfl, h1, h⟩
theorem w_l {R : It → Hp → Prop} (h : te σ H fun x H1 => KL K x H1 R) : iList K te σ H R := h
theorem k_l {a : Addr} {xs : List V} {R : It → Hp → Prop} (hs : SqL K H a xs) (h : R (Itl K a) H) : KL K (.ref a) H R := ⟨a, rfl, ⟨xs, hs⟩, h⟩
theorem w_t {R : It → Hp → Prop} (h : te σ H fun x H1 => KT K x H1 R) : iTup K te σ H R := h
theorem k_t {a : Addr} {xs : List V} {R : It → Hp → Prop} (hs : SqT K H a xs) (h : R (Itt K a) H) : KT K (.ref a) H R := ⟨a, rfl, ⟨xs, hs⟩, h⟩
theorem f_range {lo : Int} {n : Nat} (Pv : Nat → L2.St → Hp → Prop) (h0 : Pv 0 σ H)
    (hs : ∀ i σ H, i < n → Pv i σ H → g (.int (lo + i)) σ H fun σ2 H2 => t ⟨Pv (i + 1), D.rt, D.nx, Pv (i + 1)⟩ σ2 H2) (hd : ∀ σ H, Pv n σ H → D.nx σ H) : LoopF (Itr lo n) g t D σ H := for_range Pv h0 hs hd
theorem f_list {a : Addr} {xs : List V} (Pv : Nat → L2.St → Hp → Prop) (h0 : Pv 0 σ H) (hl : ∀ i σ H, i ≤ xs.length → Pv i σ H → SqL K H a xs)
    (hs : ∀ i x σ H, xs[i]? = some x → Pv i σ H → g x σ H fun σ2 H2 => t ⟨Pv (i + 1), D.rt, D.nx, Pv (i + 1)⟩ σ2 H2) (hd : ∀ σ H, Pv xs.length σ H → D.nx σ H) : LoopF (Itl K a) g t D σ H := for_list Pv h0 hl hs hd
theorem f_tup {a : Addr} {xs : List V} (Pv : Nat → L2.St → Hp → Prop) (h0 : Pv 0 σ H) (hl : ∀ i σ H, i ≤ xs.length → Pv i σ H → SqT K H a xs)
    (hs : ∀ i x σ H, xs[i]? = some x → Pv i σ H → g x σ H fun σ2 H2 => t ⟨Pv (i + 1), D.rt, D.nx, Pv (i + 1)⟩ σ2 H2) (hd : ∀ σ H, Pv xs.length σ H → D.nx σ H) : LoopF (Itt K a) g t D σ H := for_tup Pv h0 hl hs hd
/-- a text, sign by sign -/
theorem w_s {R : It → Hp → Prop} (h : te σ H fun x H1 => KS x H1 R) : iStr te σ H R := h
theorem k_s {z : Str} {R : It → Hp → Prop} (h : R (Its z) H) : KS (.str z) H R := ⟨z, rfl, h⟩
theorem f_str {z : Str} (Pv : Nat → L2.St → Hp → Prop) (h0 : Pv 0 σ H)
    (hs : ∀ i k σ H, z.cps.toList[i]? = some k → Pv i σ H → g (.str ⟨#[k]⟩) σ H fun σ2 H2 => t ⟨Pv (i + 1), D.rt, D.nx, Pv (i + 1)⟩ σ2 H2) (hd : ∀ σ H, Pv z.cps.toList.length σ H → D.nx σ H) : LoopF (Its z) g t D σ H := by
  refine ⟨fun i m σ H => m = z.cps.toList.length - i ∧ i ≤ z.cps.toList.length ∧ Pv i σ H, ⟨_, rfl, Nat.zero_le _, h0⟩, ?_⟩
  rintro i m σ H ⟨rfl, hi, p⟩
  by_cases hlt : i < z.cps.toList.length
  · refine .inr ⟨show i < z.cps.size by simpa using hlt, Pv (i + 1), fun σ' H' p' => ⟨z.cps.toList.length - (i + 1), by omega, rfl, hlt, p'⟩, fun x H' y => ?_⟩
    obtain ⟨rfl, k, e, rfl⟩ := y
    exact hs i k σ _ (by simpa using e) p
  · have e : i = z.cps.toList.length := by omega
    subst e
    exact .inl ⟨by simp [Its], hd σ H p⟩
theorem c_range {lo : Int} {n : Nat} {vs : List Nat} {tt : TT} (Pv : Addr → Nat → Hp → Prop) (h0 : ∀ D H1, H D = none → Same H H1 → H1 D = some (.lst []) → Pv D 0 H1)
    (hs : ∀ D i H1, i < n → H D = none → Pv D i H1 → g (.int (lo + i)) (wipe σ vs) H1 fun σ2 H2 => wipe σ2 vs = wipe σ vs ∧ tt σ2 H2 fun b H3 =>
      if b = true then te σ2 H3 fun y H4 => COut D y H4 (Pv D (i + 1)) else Pv D (i + 1) H3) (hd : ∀ D H1, H D = none → Pv D n H1 → Q (.ref D) H1) :
    LoopC (Itr lo n) g tt te vs σ H Q := fun D nD => lc_range (Pv D) (h0 D _ nD (same_new nD) upd_same) (fun i H1 hi p => hs D i H1 hi nD p) fun H1 p => hd D H1 nD p
theorem c_list {a : Addr} {xs : List V} {vs : List Nat} {tt : TT} (Pv : Addr → Nat → Hp → Prop) (h0 : ∀ D H1, H D = none → Same H H1 → H1 D = some (.lst []) → Pv D 0 H1) (hl : ∀ D i H1, i ≤ xs.length → H D = none → Pv D i H1 → SqL K H1 a xs)
    (hs : ∀ D i x H1, xs[i]? = some x → H D = none → Pv D i H1 → g x (wipe σ vs) H1 fun σ2 H2 => wipe σ2 vs = wipe σ vs ∧ tt σ2 H2 fun b H3 =>
      if b = true then te σ2 H3 fun y H4 => COut D y H4 (Pv D (i + 1)) else Pv D (i + 1) H3) (hd : ∀ D H1, H D = none → Pv D xs.length H1 → Q (.ref D) H1) :
    LoopC (Itl K a) g tt te vs σ H Q := fun D nD => lc_list (Pv D) (h0 D _ nD (same_new nD) upd_same) (fun i H1 hi p => hl D i H1 hi nD p) (fun i x H1 hi p => hs D i x H1 hi nD p) fun H1 p => hd D H1 nD p
theorem c_out {D : Addr} {acc : List V} {N : Hp → Prop} (e : H D = some (.lst acc)) (hz : acc.length < sizeLine) (h : ∀ H2, Chg D H H2 → H2 D = some (.lst (acc ++ [y])) → N H2) : COut D y H N := ⟨acc, e, hz, h _ chg_upd upd_same⟩
theorem s_while (W : Nat → L2.St → Hp → Prop) (m0 : Nat) (h0 : W m0 σ H) (hs : ∀ m σ H, W m σ H → c σ H fun b H1 => if b = true then KWh W m t D σ H1 else D.nx σ H1) : tWhile c t D σ H := ⟨W, ⟨m0, h0⟩, hs⟩
theorem k_while {W : Nat → L2.St → Hp → Prop} {m : Nat} (h : t ⟨fun σ' H' => ∃ m', m' < m ∧ W m' σ' H', D.rt, D.nx, fun σ' H' => ∃ m', m' < m ∧ W m' σ' H'⟩ σ H) : KWh W m t D σ H := ⟨_, fun _ _ q => q, h⟩
end
/-! ### a def of the top -/
structure DefOk (K : PySem.W.Frag) (mg : Str → Option Value) (x : Str) (st : Stmt) : Prop where
  ex : ∃ f fd, FunD K x x (defArgs st) (defBody st) (defScope st) [] [] f fd ∧ mg x = some (.ref f)
theorem cal_of {P : Program} {w : World} {K : PySem.W.Frag} {mg : Str → Option Value} {base : Heap} {x : Str} {st : Stmt} {N ps : List Str} {k : Nat} {sp : Sp} (F : DefOk K mg x st) (S : FnScope N ps (defScope st))
    (hb : ∀ f fd, FunD K x x (defArgs st) (defBody st) (defScope st) [] [] f fd → Binds K fd ps []) (len : ∀ vs H Q E, sp vs H Q E → vs.length = ps.length)
    (body : ∀ (f : Addr) (cdv : Value) (A : Around) (outer : List Env) (s : Shared) (H : Hp) (vs : List V) (Q : VK) (E : XK), Room k (A.deeper (envOfC x (defScope st) s.heap.objs.size f cdv)) → sp vs H Q E →
      ∃ t, PSs (cxOf CX0 P w K mg base N x (defScope st) f cdv A outer s H E).nox (defBody st) t ∧ t { nx := fun _ H' => Q .non H', rt := Q } (start N vs) H) : C8.Cal P w K mg base (k + 1) x sp [] := by
  obtain ⟨f, fd, F, hm⟩ := F.ex
  refine ⟨f, fd, ps, [], F.ok S len fun cdv A outer s H vs Q E hr h => ?_, hm, F.kp, hb f fd F, .nil⟩
  obtain ⟨t, h1, h2⟩ := body f cdv A outer s H vs Q E hr h
  exact ⟨t, PSs.nox h1, h2⟩
/-! ### calls without arguments -/
section
variable {X : Cx} {k j : Nat} {x : Str} {sp : Sp} {dvs : List V} {p pos : Pos}
theorem pe_c0 (c : C8.Cal X.prog X.w X.K X.mg X.base k x sp dvs) (hr : Room j X.A) (hk : k ≤ j) (hg : Gl X x) (hdb : (x == ("__debug__" : Str)) = false := by decide) :
    PE X (.Call (.Name x p) [] [] pos) (tCall sp dvs C8.E0 tNil) := by
  obtain ⟨f, fd, ps, ds, F, hm, kp, b, d⟩ := c.ex
  exact pe_call0 F (hr.mono hk) hg hm kp b d pass0 hdb
end
/-! ### a law's own hand of draws -/
def HandAt (H : Hp) (h d : Addr) : Prop := ∃ (n : Int) (ds : List Int), H h = some (.lst [.ref d, .int n]) ∧ 0 ≤ n ∧ H d = some (.lst (ds.map V.int))
/-- a draw below many -/
def spTake : Sp := fun vs H Q _ => ∃ (h d : Addr) (m : Int), vs = [.ref h, .int m] ∧ HandAt H h d ∧ 0 < m ∧ ∀ r H', 0 ≤ r → r < m → Chg h H H' → HandAt H' h d → Q (.int r) H'
theorem HandAt.ne {H : Hp} {h d : Addr} (x : HandAt H h d) : d ≠ h := by
  obtain ⟨n, ds, h1, h2, h3⟩ := x
  intro e
  subst e
  rw [h1] at h3
  cases ds <;> cases h3
theorem HandAt.same {H H' : Hp} {h d : Addr} (s : Same H H') (x : HandAt H h d) : HandAt H' h d := by
  obtain ⟨n, ds, h1, h2, h3⟩ := x
  exact ⟨n, ds, s _ _ h1, h2, s _ _ h3⟩
theorem HandAt.chg {H H' : Hp} {h d D : Addr} (c : Chg D H H') (x : HandAt H h d) (n1 : h ≠ D) (n2 : d ≠ D) : HandAt H' h d := by
  obtain ⟨n, ds, h1, h2, h3⟩ := x
  exact ⟨n, ds, c.at h1 n1, h2, c.at h3 n2⟩
theorem HandAt.new {H : Hp} {h d D : Addr} (x : HandAt H h d) (n : H D = none) : h ≠ D ∧ d ≠ D := by
  obtain ⟨_, ds, h1, h2, h3⟩ := x
  exact ⟨ne_of_none h1 n, ne_of_none h3 n⟩
/-- all but h is kept -/
def Keep (h : Addr) (H H' : Hp) : Prop := ∀ b o, b ≠ h → H b = some o → H' b = some o
theorem Keep.refl (h : Addr) (H : Hp) : Keep h H H := fun _ _ _ e => e
theorem Keep.trans {h : Addr} {H H1 H2 : Hp} (a : Keep h H H1) (b : Keep h H1 H2) : Keep h H H2 := fun c o n e => b c o n (a c o n e)
theorem Chg.keep {h : Addr} {H H' : Hp} (c : Chg h H H') : Keep h H H' := fun b o n e => c.at e n
theorem _root_.L2.Same.keep {h : Addr} {H H' : Hp} (c : Same H H') : Keep h H H' := fun b o _ e => c b o e
theorem Keep.chg {h D : Addr} {H H1 H2 : Hp} (k : Keep h H H1) (c : Chg D H1 H2) (n : H D = none) : Keep h H H2 := fun b o m e => c.at (k b o m e) (ne_of_none e n)
theorem Keep.free {h D : Addr} {H H1 : Hp} (k : Keep h H H1) (n : H1 D = none) (m : D ≠ h) : H D = none := by
  cases q : H D with
  | none => rfl
  | some o =>
    rw [k D o m q] at n
    cases n
theorem Keep.at {h b : Addr} {H H' : Hp} {o : HO} (c : Keep h H H') (e : H b = some o) (n : b ≠ h) : H' b = some o := c b o n e
theorem atI_of {α : Type} {xs : List α} {i : Int} {j : Nat} {v : α} (e : i = (j : Int)) (h : xs[j]? = some v) : atI xs i = some v := by
  subst e
  exact atI_nat h
/-! ### texts -/
theorem joinL_nil : ∀ ps : List (List Nat), TL.joinL [] ps = ps.flatten
  | [] => rfl
  | [p] => by simp [TL.joinL]
  | p :: q :: r => by
    show p ++ ([] ++ TL.joinL [] (q :: r)) = _
    rw [joinL_nil (q :: r)]
    simp
theorem join_empty (ys : List Str) : (Txt.join (Str.ofString "") ys).cps.toList = (ys.map fun y => y.cps.toList).flatten := by
  rw [TL.join_eq]
  have h := TL.tl_join (Str.ofString "") ys
  have e : TL.tl (Str.ofString "") = [] := by decide +kernel
  rw [e, joinL_nil] at h
  exact h
theorem str_len (z : Str) : z.length = z.cps.toList.length := by simp [Str.length]
theorem str_ext {x y : Str} (h : x.cps.toList = y.cps.toList) : x = y := by
  obtain ⟨a⟩ := x
  obtain ⟨b⟩ := y
  have e : a = b := Array.ext' h
  rw [e]
theorem app_len (x y : Str) : (x ++ y).length = x.length + y.length := by
  show (x.cps ++ y.cps).size = x.cps.size + y.cps.size
  simp
theorem app_tl (x y : Str) : (x ++ y).cps.toList = x.cps.toList ++ y.cps.toList := by
  show (x.cps ++ y.cps).toList = x.cps.toList ++ y.cps.toList
  simp
theorem repS_len (z : Str) (k : Int) : (repS z k).length = k.toNat * z.length := by
  unfold repS
  simp [Str.length, List.length_flatten, List.map_replicate, List.sum_replicate_nat]
theorem cutS_nat (z : Str) {i j : Nat} (hi : i ≤ z.length) (hj : j ≤ z.length) : (cutS z (some (i : Int)) (some (j : Int))).cps.toList = (z.cps.toList.drop i).take (j - i) := by
  unfold cutS
  rw [HT.sIx_nat, HT.sIx_nat, Nat.min_eq_left hi, Nat.min_eq_left hj]
theorem cutS_len2 (z : Str) (i : Nat) : (cutS z (some (i : Int)) (some ((i + 2 : Nat) : Int))).length = min (i + 2) z.length - min i z.length := by
  unfold cutS
  rw [HT.sIx_nat, HT.sIx_nat]
  show ((((z.cps.toList.drop (min i z.length)).take (min (i + 2) z.length - min i z.length)).toArray).size) = _
  rw [List.size_toArray, List.length_take, List.length_drop, Array.length_toList]
  show min _ (z.length - _) = _
  omega
/-- the place behind the longest run from i of signs in p -/
def runEnd (cs p : List Nat) (i : Nat) : Nat := i + ((cs.drop i).takeWhile fun c => decide (c ∈ p)).length
theorem runEnd_out {cs p : List Nat} {i : Nat} (h : cs.length ≤ i) : runEnd cs p i = i := by
  unfold runEnd
  rw [List.drop_of_length_le h]
  rfl
theorem runEnd_no {cs p : List Nat} {i c : Nat} (e : cs[i]? = some c) (h : c ∉ p) : runEnd cs p i = i := by
  unfold runEnd
  have hi : i < cs.length := (List.getElem?_eq_some_iff.mp e).1
  rw [List.drop_eq_getElem_cons hi, (List.getElem?_eq_some_iff.mp e).2, List.takeWhile_cons_of_neg (by simpa using h)]
  rfl
theorem runEnd_yes {cs p : List Nat} {i c : Nat} (e : cs[i]? = some c) (h : c ∈ p) : runEnd cs p i = runEnd cs p (i + 1) := by
  unfold runEnd
  have hi : i < cs.length := (List.getElem?_eq_some_iff.mp e).1
  rw [List.drop_eq_getElem_cons hi, (List.getElem?_eq_some_iff.mp e).2, List.takeWhile_cons_of_pos (by simpa using h), List.length_cons]
  omega
theorem runEnd_ge (cs p : List Nat) (i : Nat) : i ≤ runEnd cs p i := Nat.le_add_right _ _
theorem runEnd_le {cs p : List Nat} {i : Nat} (h : i ≤ cs.length) : runEnd cs p i ≤ cs.length := by
  unfold runEnd
  have h1 := (List.takeWhile_prefix (fun c => decide (c ∈ p)) (l := cs.drop i)).length_le
  rw [List.length_drop] at h1
  omega
theorem runEnd_all {cs p : List Nat} : runEnd cs p 0 = cs.length ↔ ∀ c ∈ cs, c ∈ p := by
  unfold runEnd
  rw [List.drop_zero, Nat.zero_add]
  induction cs with
  | nil => simp
  | cons a r ih =>
    by_cases h : a ∈ p
    · rw [List.takeWhile_cons_of_pos (by simpa using h), List.length_cons, List.length_cons, Nat.add_right_cancel_iff, ih]
      simp [h]
    · rw [List.takeWhile_cons_of_neg (by simpa using h)]
      simp [h]
theorem atI_cps {z : Str} {i : Nat} (h : i < z.length) : ∃ c, z.cps.toList[i]? = some c ∧ atI z.cps.toList (i : Int) = some c := by
  have h1 : i < z.cps.toList.length := by rw [← str_len]; exact h
  exact ⟨_, List.getElem?_eq_getElem h1, atI_nat (List.getElem?_eq_getElem h1)⟩
theorem small1000' {n : Nat} (h : n ≤ 100000) : n < sizeLine := Nat.lt_of_le_of_lt h (by decide)
theorem ixN_nat {n j : Nat} (h : j < n) : ixN n (j : Int) = some j := by
  unfold ixN
  rw [if_pos (by omega), if_pos (by omega)]
  simp
/-- one sign, compared -/
theorem sign_eq {c k : Nat} {y : Str} (hy : y = ⟨#[k]⟩) : decide (V.str ⟨#[c]⟩ = V.str y) = true ↔ c = k := by
  rw [decide_eq_true_iff, hy]
  constructor
  · intro e
    injection e with e
    injection e with e
    have e2 := congrArg Array.toList e
    simpa using e2
  · intro e
    rw [e]
theorem snoc_int {H : Hp} {d : Addr} {ds : List Int} {v : Int} (e : H d = some (.lst (ds.map V.int ++ [.int v]))) : ∃ ds' : List Int, H d = some (.lst (ds'.map V.int)) ∧ ds'.length = ds.length + 1 :=
  ⟨ds ++ [v], by rw [e, List.map_append]; rfl, by rw [List.length_append]; rfl⟩
/-- the items are texts of at most m signs -/
def strsB (m : Nat) (xs : List V) : Bool := xs.all fun x => match x with | .str y => decide (y.length ≤ m) | _ => false
theorem item_str (xs : List V) {m : Nat} (h : strsB m xs = true) {j : Nat} (hj : j < xs.length) : ∃ y : Str, xs[j]? = some (.str y) ∧ y.length ≤ m := by
  have h1 := List.all_eq_true.mp h xs[j] (List.getElem_mem hj)
  cases e : xs[j] with
  | str y =>
    rw [e] at h1
    exact ⟨y, by rw [List.getElem?_eq_getElem hj, e], of_decide_eq_true h1⟩
  | _ =>
    rw [e] at h1
    cases h1
theorem fn_of2 {P : Program} {w : World} {K : PySem.W.Frag} {mg : Str → Option Value} {base : Heap} {x : Str} {st : Stmt} {N ps : List Str} {k : Nat} {sp : Sp} {f : Addr} {fd : FuncData} (F : FunD K x x (defArgs st) (defBody st) (defScope st) [] [] f fd) (S : FnScope N ps (defScope st))
    (len : ∀ vs H Q E, sp vs H Q E → vs.length = ps.length)
    (body : ∀ (f : Addr) (cdv : Value) (A : Around) (outer : List Env) (s : Shared) (H : Hp) (vs : List V) (Q : VK) (E : XK), Room k (A.deeper (envOfC x (defScope st) s.heap.objs.size f cdv)) → sp vs H Q E →
      ∃ t, PSs (cxOf CX0 P w K mg base N x (defScope st) f cdv A outer s H E).nox (defBody st) t ∧ t { nx := fun _ H' => Q .non H', rt := Q } (start N vs) H) : FnOk P w K mg base CX0 (k + 1) f fd ps sp :=
  F.ok S len fun cdv A outer s H vs Q E hr h => by
    obtain ⟨t, h1, h2⟩ := body f cdv A outer s H vs Q E hr h
    exact ⟨t, PSs.nox h1, h2⟩
theorem lz {n : Nat} (h : n ≤ 1000) : n ≤ sizeLine := Nat.le_of_lt (small1000 h)
/-! ### more steps -/
def rStrI : List V → Hp → VK → Prop := fun xs H Q => ∃ i, xs = [.int i] ∧ i.natAbs.log2 < 1920 ∧ Q (.str (toString i)) H
theorem call_strI {X : Cx} : CallR X (.type "str") rStrI := call_str_int
def rLst (K : PySem.W.Frag) : List V → Hp → VK → Prop := fun xs H Q => ∃ p ys, xs = [.ref p] ∧ (SqL K H p ys ∨ SqT K H p ys) ∧ ∀ l, H l = none → Q (.ref l) (upd H l (.lst ys))
theorem call_lst {X : Cx} : CallR X (.type "list") (rLst X.K) := call_list_of
def rTpl (K : PySem.W.Frag) : List V → Hp → VK → Prop := fun xs H Q => ∃ p ys, xs = [.ref p] ∧ SqL K H p ys ∧ ∀ l, H l = none → Q (.ref l) (upd H l (.tup ys))
theorem log_small {n : Nat} (h : n < 10 ^ 40) : n.log2 < 1920 := by
  by_cases h0 : n = 0
  · subst h0
    decide
  · rw [Nat.log2_lt h0]
    exact Nat.lt_of_lt_of_le h (by decide +kernel)
def tJoined (ts : List TE) : TE := fun σ H Q => tJs ts Str.empty σ H fun out H1 => Q (.str out) H1
theorem pe_joined2 {X : Cx} {v1 v2 : Expr} {rest : List Expr} {ts : List TE} {pos : Pos} (h : PJ X (v1 :: v2 :: rest) ts) : PE X (.JoinedStr (v1 :: v2 :: rest) pos) (tJoined ts) := pe_joined h
def KJ (x : V) (acc : Str) (ts : List TE) (σ : L2.St) (H : Hp) (Q : Str → Hp → Prop) : Prop := ∃ y : Str, x = .str y ∧ (acc ++ y).length ≤ sizeLine ∧ tJs ts (acc ++ y) σ H Q
def KF (x : V) (H : Hp) (Q : VK) : Prop := (∃ y : Str, x = .str y ∧ y.length ≤ sizeLine ∧ Q (.str y) H) ∨ ∃ i : Int, x = .int i ∧ i.natAbs.log2 < 1920 ∧ Q (.str (toString i)) H
section
variable {K : PySem.W.Frag} {σ : L2.St} {H : Hp} {Q : VK} {QS : L2.St → Hp → Prop} {QJ : Str → Hp → Prop} {te : TE} {ts : List TE} {v : V} {g : TG}
theorem g_tup {u : TGs} {a : Addr} {xs : List V} {n : Nat} (hs : SqT K H a xs) (hl : xs.length = n) (h : u xs σ H QS) : gTup K n u (.ref a) σ H QS := ⟨a, xs, rfl, hs, hl, h⟩
theorem g_cons {u : TGs} {r : List V} (h : g v σ H fun σ' H' => u r σ' H' QS) : gCons g u (v :: r) σ H QS := ⟨v, r, rfl, h⟩
theorem g_nil (h : QS σ H) : gNil [] σ H QS := ⟨rfl, h⟩
theorem b_strI {i : Int} (hz : i.natAbs < 10 ^ 40) (h : Q (.str (toString i)) H) : rStrI [.int i] H Q := ⟨i, rfl, log_small hz, h⟩
theorem b_lst {a : Addr} {xs : List V} (hs : SqL K H a xs) (h : ∀ p H2, H p = none → Same H H2 → H2 p = some (.lst xs) → Q (.ref p) H2) : rLst K [.ref a] H Q := ⟨a, xs, rfl, .inl hs, new_same h⟩
theorem e_joined (h : tJs ts Str.empty σ H fun out H1 => Q (.str out) H1) : tJoined ts σ H Q := h
theorem j_nil {acc : Str} (h : QJ acc H) : tJs [] acc σ H QJ := h
theorem j_cons {acc : Str} (h : te σ H fun x H1 => KJ x acc ts σ H1 QJ) : tJs (te :: ts) acc σ H QJ := h
theorem k_j {acc y : Str} (hz : (acc ++ y).length ≤ sizeLine) (h : tJs ts (acc ++ y) σ H QJ) : KJ (.str y) acc ts σ H QJ := ⟨y, rfl, hz, h⟩
theorem e_fmt (h : te σ H fun x H1 => KF x H1 Q) : tFmt te σ H Q := h
theorem k_fS {y : Str} (hz : y.length ≤ sizeLine) (h : Q (.str y) H) : KF (.str y) H Q := .inl ⟨y, rfl, hz, h⟩
theorem k_fI {i : Int} (hz : i.natAbs < 10 ^ 40) (h : Q (.str (toString i)) H) : KF (.int i) H Q := .inr ⟨i, rfl, log_small hz, h⟩
end
/-! ### data of tuples -/
mutual
inductive Tp (H : Hp) : V → PyData → Prop
  | non : Tp H .non .none
  | bl (b : Bool) : Tp H (.bl b) (.bool b)
  | int (i : Int) : Tp H (.int i) (.int i)
  | str (x : Str) : Tp H (.str x) (.str x)
  | tup {a : Addr} {xs : List V} {ds : List PyData} : H a = some (.tup xs) → TpAll H xs ds → Tp H (.ref a) (.tuple ds)
inductive TpAll (H : Hp) : List V → List PyData → Prop
  | nil : TpAll H [] []
  | cons {v : V} {vs : List V} {d : PyData} {ds : List PyData} : Tp H v d → TpAll H vs ds → TpAll H (v :: vs) (d :: ds)
end
/-- the tuples stay -/
def TK (H H' : Hp) : Prop := ∀ a xs, H a = some (.tup xs) → H' a = some (.tup xs)
theorem TK.refl (H : Hp) : TK H H := fun _ _ e => e
theorem TK.trans {H H1 H2 : Hp} (a : TK H H1) (b : TK H1 H2) : TK H H2 := fun c xs e => b c xs (a c xs e)
theorem _root_.L2.Same.tk {H H' : Hp} (s : Same H H') : TK H H' := fun a xs e => s a _ e
theorem Chg.tk {l : Addr} {H H' : Hp} {ys : List V} (c : Chg l H H') (e : H l = some (.lst ys)) : TK H H' := fun a xs h => c.at h (ne_of h e (by intro z; cases z))
theorem Keep.tk {h : Addr} {H H' : Hp} {ys : List V} (c : Keep h H H') (e : H h = some (.lst ys)) : TK H H' := fun a xs q => c.at q (ne_of q e (by intro z; cases z))
theorem HandAt.keep_tk {h d : Addr} {H H' : Hp} (x : HandAt H h d) (c : Keep h H H') : TK H H' := by
  obtain ⟨n, ds, h1, _, _⟩ := x
  exact c.tk h1
theorem HandAt.chg_tk {h d : Addr} {H H' : Hp} (x : HandAt H h d) (c : Chg h H H') : TK H H' := x.keep_tk c.keep
mutual
theorem Tp.tk {H H' : Hp} (k : TK H H') : ∀ {d : PyData} {v : V}, Tp H v d → Tp H' v d
  | .none, _, h => by cases h; exact .non
  | .bool b, _, h => by cases h; exact .bl b
  | .int i, _, h => by cases h; exact .int i
  | .str x, _, h => by cases h; exact .str x
  | .tuple ds, _, h => by
    cases h with
    | tup e r => exact .tup (k _ _ e) (TpAll.tk k r)
  | .list _, _, h => by cases h
  | .dict _, _, h => by cases h
theorem TpAll.tk {H H' : Hp} (k : TK H H') : ∀ {ds : List PyData} {vs : List V}, TpAll H vs ds → TpAll H' vs ds
  | [], _, h => by cases h; exact .nil
  | d :: ds, _, h => by
    cases h with
    | cons h1 h2 => exact .cons (Tp.tk k h1) (TpAll.tk k h2)
end
mutual
theorem Tp.dp {K : PySem.W.Frag} {H : Hp} : ∀ {d : PyData} {v : V}, Tp H v d → Dp K H v d
  | .none, _, h => by cases h; exact .non
  | .bool b, _, h => by cases h; exact .bl b
  | .int i, _, h => by cases h; exact .int i
  | .str x, _, h => by cases h; exact .str x
  | .tuple ds, _, h => by
    cases h with
    | tup e r => exact .tup (tup_of e) (TpAll.dp r)
  | .list _, _, h => by cases h
  | .dict _, _, h => by cases h
theorem TpAll.dp {K : PySem.W.Frag} {H : Hp} : ∀ {ds : List PyData} {vs : List V}, TpAll H vs ds → DpAll K H vs ds
  | [], _, h => by cases h; exact .nil
  | d :: ds, _, h => by
    cases h with
    | cons h1 h2 => exact .cons (Tp.dp h1) (TpAll.dp h2)
end
theorem TpAll.get {H : Hp} : ∀ {vs : List V} {ds : List PyData} {i : Nat} {d : PyData}, TpAll H vs ds → ds[i]? = some d → ∃ v, vs[i]? = some v ∧ Tp H v d
  | _, _, _, _, .nil, h => by cases h
  | _, _, 0, _, .cons h1 _, h => by
    cases h
    exact ⟨_, rfl, h1⟩
  | _, _, i + 1, _, .cons _ h2, h => by
    obtain ⟨v, e, q⟩ := TpAll.get h2 (i := i) h
    exact ⟨v, e, q⟩
theorem TpAll.length {H : Hp} : ∀ {vs : List V} {ds : List PyData}, TpAll H vs ds → vs.length = ds.length
  | _, _, .nil => rfl
  | _, _, .cons _ h => by rw [List.length_cons, List.length_cons, h.length]
/-- a def that is never called so -/
theorem cal_never {P : Program} {w : World} {K : PySem.W.Frag} {mg : Str → Option Value} {base : Heap} {x : Str} {st : Stmt} {ps : List Str} {k : Nat} {sp : Sp} (F : DefOk K mg x st)
    (hb : ∀ f fd, FunD K x x (defArgs st) (defBody st) (defScope st) [] [] f fd → Binds K fd ps []) (no : ∀ vs H Q E, ¬ sp vs H Q E) : C8.Cal P w K mg base k x sp [] := by
  obtain ⟨f, fd, F, hm⟩ := F.ex
  exact ⟨f, fd, ps, [], ⟨fun vs H Q E h => absurd h (no _ _ _ _), fun A outer s H args us vs Q E hr he hb hv h => absurd h (no _ _ _ _)⟩, hm, F.kp, hb f fd F, .nil⟩
end Wy
open Wy
namespace W6
open PySem PySem.Spec PyProof.Rows L2 Wy
theorem uu {a c : Nat} (h : a + 64 < c) : a + 1 < c := by omega
/-! ### a table of the top: texts to tuples -/
def rKd (K : PySem.W.Frag) (d : Addr) : R2 := fun x y H Q => ∃ (z : Str) (u0 : Value) (v0 : V), x = .ref d ∧ y = .str z ∧ PySem.W.nsIn K d z = some (some u0) ∧ RelV v0 u0 ∧ Q v0 H
theorem pe_kd {X : Cx} {d : Addr} {es : Array DictEntry} {n : Nat} {o i : Expr} {pos : Pos} {td ty : TE} (D : KDict X.K X.w d es n) (ho : PE X o td) (hi : PE X i ty) (hs : NoSl i) : PE X (.Subscript o i pos) (tOp (rKd X.K d) td ty) := by
  refine ⟨fun pins s σ H Q I h => ?_⟩
  refine subD_of PySem.F.slot_dict_getitem.lookup hs (thn (ho.run pins s σ H _ I h) fun u s1 ⟨x, H1, I1, rx, q1⟩ => thn (hi.run pins s1 σ H1 _ I1 q1) fun iv s2 ⟨y, H2, I2, ry, q2⟩ => ?_)
  have q3 := q2
  obtain ⟨z, u0, v0, ex, ey, e, r, q⟩ := q2
  subst ex
  have ru : u = Value.ref d := rx
  subst ru
  exact ⟨kd_type D I2, op_item_kd D pins s2 σ H2 (.ref d) y _ iv Q I2 rfl ry q3⟩
def tupAt (K : PySem.W.Frag) (o : Option Obj) (vs : List V) : Bool := match o with
  | some ⟨.type c, none, .seq its _, _⟩ => decide (c = "tuple") && (decide (its.size ≤ sizeLine) && He.relAll vs its.toList)
  | _ => false
def keyB (K : PySem.W.Frag) (d : Addr) (z : Str) (vs : List V) : Bool := match PySem.W.nsIn K d z with
  | some (some (.ref t)) => tupAt K (K.lookup t) vs
  | _ => false
theorem tupAt_ok {K : PySem.W.Frag} {t : Addr} {vs : List V} (h : tupAt K (K.lookup t) vs = true) (H : Hp) : SqT K H t vs := by
  unfold tupAt at h
  split at h
  · rename_i c its n sl e
    obtain ⟨h1, h2⟩ := He.ba h
    obtain ⟨h3, h4⟩ := He.ba h2
    exact .inr ⟨_, its, n, e, congrArg Value.type (of_decide_eq_true h1), rfl, of_decide_eq_true h3, He.relAll_ok h4⟩
  · cases h
theorem keyB_ok {K : PySem.W.Frag} {d : Addr} {z : Str} {vs : List V} (h : keyB K d z vs = true) : ∃ t, PySem.W.nsIn K d z = some (some (.ref t)) ∧ ∀ H, SqT K H t vs := by
  unfold keyB at h
  split at h
  · rename_i t e
    exact ⟨t, e, fun H => tupAt_ok h H⟩
  · cases h
theorem o_kd {K : PySem.W.Frag} {H : Hp} {Q : VK} {d t : Addr} {z : Str} (e : PySem.W.nsIn K d z = some (some (.ref t))) (q : Q (.ref t) H) : rKd K d (.ref d) (.str z) H Q := ⟨z, _, .ref t, rfl, rfl, e, rfl, q⟩
def rTup (K : PySem.W.Frag) : List V → Hp → VK → Prop := fun xs H Q => ∃ p ys, xs = [.ref p] ∧ ((SqL K H p ys ∧ ∀ l, H l = none → Q (.ref l) (upd H l (.tup ys))) ∨ (SqT K H p ys ∧ Q (.ref p) H))
theorem call_tup2 {X : Cx} : CallR X (.type "tuple") (rTup X.K) := call_tuple_of
theorem b_tup {K : PySem.W.Frag} {H : Hp} {Q : VK} {a : Addr} {xs : List V} (hs : SqL K H a xs) (h : ∀ p H2, H p = none → Same H H2 → H2 p = some (.tup xs) → Q (.ref p) H2) : rTup K [.ref a] H Q := ⟨a, xs, rfl, .inl ⟨hs, new_same h⟩⟩
end W6
namespace WM
open PySem PySem.Spec PyProof.Rows L2 Wy
abbrev LONG : List V := [.str "<=", .str ">=", .str "==", .str "!="]
abbrev RESV : List V := [.str "input", .str "from", .str "to", .str "list", .str "def", .str "let", .str "if", .str "else", .str "end", .str "while", .str "at", .str "most", .str "check", .str "refuse", .str "answer", .str "return", .str "skip", .str "and", .str "or", .str "not", .str "row", .str "yes", .str "no", .str "turn", .str "fault", .str "when", .str "then"]
/-! ### the mathematics -/
abbrev LET : Str := "abcdefghijklmnopqrstuvwxyz"
abbrev DIG : Str := "0123456789"
abbrev SHO : Str := "<>=+-()[],:"
abbrev tl (z : Str) : List Nat := z.cps.toList
/-- two signs at i that are one word -/
def pairAt (z : Str) (i : Nat) : Bool := inV (.str (cutS z (some (i : Int)) (some ((i + 2 : Nat) : Int)))) LONG
theorem pair_len {z : Str} {i : Nat} (h : pairAt z i = true) : i + 2 ≤ z.length := by
  unfold pairAt inV at h
  have hl := cutS_len2 z i
  have h2 : (cutS z (some (i : Int)) (some ((i + 2 : Nat) : Int))).length = 2 := by
    simp only [List.any_cons, List.any_nil, Bool.or_false, Bool.or_eq_true] at h
    have key : ∀ w : Str, w.length = 2 → eqV (.str w) (.str (cutS z (some (i : Int)) (some ((i + 2 : Nat) : Int)))) = true → (cutS z (some (i : Int)) (some ((i + 2 : Nat) : Int))).length = 2 := fun w hw e => by
      have e2 : (w == cutS z (some (i : Int)) (some ((i + 2 : Nat) : Int))) = true := e
      rw [← eq_of_beq e2]
      exact hw
    rcases h with h | h | h | h
    · exact key _ (by decide +kernel) h
    · exact key _ (by decide +kernel) h
    · exact key _ (by decide +kernel) h
    · exact key _ (by decide +kernel) h
  omega
/-- the place behind the word that begins at i with the sign c -/
def wordEnd (z : Str) (i c : Nat) : Nat :=
  if c ∈ tl LET then runEnd (tl z) (tl LET) i else if c ∈ tl DIG then runEnd (tl z) (tl DIG) i else if pairAt z i = true then i + 2 else if c ∈ tl SHO then i + 1 else i
theorem wordEnd_ge (z : Str) (i c : Nat) : i ≤ wordEnd z i c := by
  unfold wordEnd
  split
  · exact runEnd_ge _ _ _
  · split
    · exact runEnd_ge _ _ _
    · split
      · omega
      · split <;> omega
theorem wordEnd_le {z : Str} {i c : Nat} (e : (tl z)[i]? = some c) : wordEnd z i c ≤ z.length := by
  have hi : i < (tl z).length := (List.getElem?_eq_some_iff.mp e).1
  have hl : z.length = (tl z).length := str_len z
  unfold wordEnd
  split
  · rw [hl]
    exact runEnd_le (Nat.le_of_lt hi)
  · split
    · rw [hl]
      exact runEnd_le (Nat.le_of_lt hi)
    · split
      · rename_i h
        exact pair_len h
      · split <;> omega
def scan (z : Str) : Nat → Nat → List Str → Option (List Str)
  | 0, _, acc => some acc
  | n + 1, i, acc => match (tl z)[i]? with
    | none => some acc
    | some c => if c = 32 then scan z n (i + 1) acc else if wordEnd z i c = i then none else scan z n (wordEnd z i c) (acc ++ [cutS z (some (i : Int)) (some (wordEnd z i c : Int))])
theorem scan_out {z : Str} {n i : Nat} {acc : List Str} (h : z.length ≤ i) : scan z n i acc = some acc := by
  cases n with
  | zero => rfl
  | succ n =>
    have e : (tl z)[i]? = none := List.getElem?_eq_none_iff.mpr (by rw [str_len] at h; exact h)
    unfold scan
    rw [e]
theorem scan_fuel {z : Str} : ∀ {n m i : Nat} {acc : List Str}, z.length - i ≤ n → z.length - i ≤ m → scan z n i acc = scan z m i acc
  | 0, m, i, acc, h, _ => by
    rw [scan_out (n := m) (by omega)]
    rfl
  | n + 1, 0, i, acc, _, h => by
    rw [scan_out (n := n + 1) (by omega)]
    rfl
  | n + 1, m + 1, i, acc, h1, h2 => by
    unfold scan
    cases e : (tl z)[i]? with
    | none => rfl
    | some c =>
      have hi : i < z.length := by
        rw [str_len]
        exact (List.getElem?_eq_some_iff.mp e).1
      show (if c = 32 then _ else if _ then _ else _) = (if c = 32 then _ else if _ then _ else _)
      split
      · exact scan_fuel (by omega) (by omega)
      · split
        · rfl
        · have g := wordEnd_ge z i c
          exact scan_fuel (by omega) (by omega)
/-- the words from i on, behind those found -/
def from_ (z : Str) (i : Nat) (acc : List Str) : Option (List Str) := scan z (z.length - i) i acc
theorem from_out {z : Str} {i : Nat} {acc : List Str} (h : z.length ≤ i) : from_ z i acc = some acc := scan_out h
theorem from_step {z : Str} {i c : Nat} {acc : List Str} (e : (tl z)[i]? = some c) :
    from_ z i acc = if c = 32 then from_ z (i + 1) acc else if wordEnd z i c = i then none else from_ z (wordEnd z i c) (acc ++ [cutS z (some (i : Int)) (some (wordEnd z i c : Int))]) := by
  have hi : i < z.length := by
    rw [str_len]
    exact (List.getElem?_eq_some_iff.mp e).1
  unfold from_
  obtain ⟨n, hn⟩ : ∃ n, z.length - i = n + 1 := ⟨z.length - i - 1, by omega⟩
  rw [hn]
  show (match (tl z)[i]? with | none => some acc | some c => if c = 32 then scan z n (i + 1) acc else if wordEnd z i c = i then none else scan z n (wordEnd z i c) (acc ++ [cutS z (some (i : Int)) (some (wordEnd z i c : Int))])) = _
  rw [e]
  have g := wordEnd_ge z i c
  show (if c = 32 then _ else if _ then _ else _) = (if c = 32 then _ else if _ then _ else _)
  split
  · exact scan_fuel (by omega) (by omega)
  · split
    · rfl
    · exact scan_fuel (by omega) (by omega)
def wordsW (z : Str) : Option (List Str) := from_ z 0 []
def nameW (z : Str) : Bool := decide (1 ≤ z.length) && decide (z.length ≤ 12) && !inV (.str z) RESV && decide (∀ c ∈ tl z, c ∈ tl LET)
def numberW (z : Str) : Bool := decide (1 ≤ z.length) && decide (z.length ≤ 10) && (decide (∀ c ∈ tl z, c ∈ tl DIG)) && (decide (z.length = 1) || !decide ((tl z)[0]? = some 48))
/-! ### more of the mathematics -/
theorem scan_words {z : Str} : ∀ {n i : Nat} {acc ws : List Str}, scan z n i acc = some ws → acc.length ≤ i → i ≤ z.length → (∀ y ∈ acc, y.length ≤ z.length) → ws.length ≤ z.length ∧ ∀ y ∈ ws, y.length ≤ z.length
  | 0, i, acc, ws, h, l, hi, ha => by
    have e : acc = ws := Option.some.inj h
    rw [← e]
    exact ⟨by omega, ha⟩
  | n + 1, i, acc, ws, h, l, hi, ha => by
    unfold scan at h
    cases e : (tl z)[i]? with
    | none =>
      rw [e] at h
      have e : acc = ws := Option.some.inj h
      rw [← e]
      exact ⟨by omega, ha⟩
    | some c =>
      rw [e] at h
      have hi1 : i < z.length := by
        rw [str_len]
        exact (List.getElem?_eq_some_iff.mp e).1
      have h2 : (if c = 32 then scan z n (i + 1) acc else if wordEnd z i c = i then none else scan z n (wordEnd z i c) (acc ++ [cutS z (some (i : Int)) (some (wordEnd z i c : Int))])) = some ws := h
      have g := wordEnd_ge z i c
      split at h2
      · exact scan_words h2 (by omega) (by omega) ha
      · split at h2
        · cases h2
        · refine scan_words h2 (by rw [List.length_append]; show acc.length + 1 ≤ _; omega) (wordEnd_le e) fun y hy => ?_
          rcases List.mem_append.mp hy with hy | hy
          · exact ha y hy
          · rw [show y = _ by simpa using hy]
            exact cutS_length _ _ _
theorem wordsOf_small {z : Str} {ws : List Str} (h : wordsW z = some ws) : ws.length ≤ z.length ∧ ∀ y ∈ ws, y.length ≤ z.length :=
  scan_words h (Nat.le_refl _) (Nat.zero_le _) (by simp)
theorem pair_cps {z : Str} {i : Nat} : pairAt z i = true ↔ ∃ a, (tl z)[i]? = some a ∧ (tl z)[i + 1]? = some 61 ∧ (a = 60 ∨ a = 62 ∨ a = 61 ∨ a = 33) := by
  have key : ∀ (w : Str) (a : Nat), tl w = [a, 61] → (eqV (.str w) (.str (cutS z (some (i : Int)) (some ((i + 2 : Nat) : Int)))) = true ↔ (tl z)[i]? = some a ∧ (tl z)[i + 1]? = some 61) := fun w a hw => by
    have e1 : eqV (.str w) (.str (cutS z (some (i : Int)) (some ((i + 2 : Nat) : Int)))) = (w == cutS z (some (i : Int)) (some ((i + 2 : Nat) : Int))) := rfl
    rw [e1, beq_iff_eq]
    constructor
    · intro e
      have hl := cutS_len2 z i
      have h2 : (cutS z (some (i : Int)) (some ((i + 2 : Nat) : Int))).length = 2 := by
        rw [← e, str_len]
        show (tl w).length = 2
        rw [hw]
        rfl
      have h3 : i + 2 ≤ z.length := by omega
      have h4 := cutS_nat z (i := i) (j := i + 2) (by omega) h3
      rw [← e, show w.cps.toList = [a, 61] from hw, show i + 2 - i = 2 by omega] at h4
      have h5 : ((tl z).drop i)[0]? = some a := by
        have h6 : (((tl z).drop i).take 2)[0]? = some a := by rw [← h4]; rfl
        rw [List.getElem?_take] at h6
        simpa using h6
      have h7 : ((tl z).drop i)[1]? = some 61 := by
        have h6 : (((tl z).drop i).take 2)[1]? = some 61 := by rw [← h4]; rfl
        rw [List.getElem?_take] at h6
        simpa using h6
      rw [List.getElem?_drop] at h5 h7
      exact ⟨by simpa using h5, h7⟩
    · rintro ⟨h1, h2⟩
      have l1 := (List.getElem?_eq_some_iff.mp h1)
      have l2 := (List.getElem?_eq_some_iff.mp h2)
      obtain ⟨l1, v1⟩ := l1
      obtain ⟨l2, v2⟩ := l2
      have hz : z.length = (tl z).length := str_len z
      refine str_ext ?_
      rw [cutS_nat z (i := i) (j := i + 2) (by omega) (by omega), show w.cps.toList = [a, 61] from hw, show i + 2 - i = 2 by omega]
      show [a, 61] = List.take 2 (List.drop i (tl z))
      rw [List.drop_eq_getElem_cons l1, List.drop_eq_getElem_cons l2, v1, v2]
      rfl
  unfold pairAt inV
  simp only [List.any_cons, List.any_nil, Bool.or_false, Bool.or_eq_true]
  rw [key _ 60 (by decide +kernel), key _ 62 (by decide +kernel), key _ 61 (by decide +kernel), key _ 33 (by decide +kernel)]
  constructor
  · rintro (⟨h, h'⟩ | ⟨h, h'⟩ | ⟨h, h'⟩ | ⟨h, h'⟩)
    · exact ⟨_, h, h', by omega⟩
    · exact ⟨_, h, h', by omega⟩
    · exact ⟨_, h, h', by omega⟩
    · exact ⟨_, h, h', by omega⟩
  · rintro ⟨a, h, h', (rfl | rfl | rfl | rfl)⟩
    · exact .inl ⟨h, h'⟩
    · exact .inr (.inl ⟨h, h'⟩)
    · exact .inr (.inr (.inl ⟨h, h'⟩))
    · exact .inr (.inr (.inr ⟨h, h'⟩))
theorem space_end {z : Str} {i : Nat} (e : (tl z)[i]? = some 32) : wordEnd z i 32 = i := by
  unfold wordEnd
  rw [if_neg (by decide +kernel), if_neg (by decide +kernel), if_neg, if_neg (by decide +kernel)]
  rw [pair_cps]
  rintro ⟨a, h, _, h2⟩
  rw [e] at h
  have : 32 = a := Option.some.inj h
  omega
/-! spaces around a text -/
structure Around_ (z y : Str) (n : Nat) : Prop where
  eq : tl y = List.replicate n 32 ++ tl z ++ [32, 32]
section
variable {z y : Str} {n : Nat}
theorem Around_.at (A : Around_ z y n) {i : Nat} (h : i < (tl z).length) : (tl y)[n + i]? = (tl z)[i]? := by
  rw [A.eq, List.append_assoc, List.getElem?_append_right (by simp), List.length_replicate, Nat.add_sub_cancel_left, List.getElem?_append_left h]
theorem Around_.behind (A : Around_ z y n) {i : Nat} (h : i = (tl z).length ∨ i = (tl z).length + 1) : (tl y)[n + i]? = some 32 := by
  rw [A.eq, List.append_assoc, List.getElem?_append_right (by simp), List.length_replicate, Nat.add_sub_cancel_left, List.getElem?_append_right (by omega)]
  rcases h with rfl | rfl
  · simp
  · rw [Nat.add_sub_cancel_left]
    rfl
theorem Around_.ahead (A : Around_ z y n) {i : Nat} (h : i < n) : (tl y)[i]? = some 32 := by
  rw [A.eq, List.append_assoc, List.getElem?_append_left (by simpa using h), List.getElem?_replicate, if_pos h]
theorem Around_.len (A : Around_ z y n) : y.length = n + z.length + 2 := by
  have hz : z.length = (tl z).length := str_len z
  have hy : y.length = (tl y).length := str_len y
  rw [hy, hz, A.eq, List.length_append, List.length_append, List.length_replicate]
  rfl
theorem Around_.run (A : Around_ z y n) {p : List Nat} (hp : 32 ∉ p) : ∀ {k i : Nat}, k = (tl z).length - i → i ≤ (tl z).length → runEnd (tl y) p (n + i) = n + runEnd (tl z) p i
  | 0, i, hk, hi => by
    have e : i = (tl z).length := by omega
    rw [runEnd_out (cs := tl z) (by omega), runEnd_no (A.behind (.inl e)) hp]
  | k + 1, i, hk, hi => by
    have hi2 : i < (tl z).length := by omega
    have g := A.at hi2
    have e := List.getElem?_eq_getElem hi2
    rw [e] at g
    by_cases h : (tl z)[i] ∈ p
    · rw [runEnd_yes g h, runEnd_yes e h, Nat.add_assoc, A.run hp (k := k) (by omega) (by omega)]
    · rw [runEnd_no g h, runEnd_no e h]
theorem Around_.pair (A : Around_ z y n) {i : Nat} (h : i < (tl z).length) : pairAt y (n + i) = pairAt z i := by
  rw [Bool.eq_iff_iff, pair_cps, pair_cps, A.at h]
  by_cases h2 : i + 1 < (tl z).length
  · rw [Nat.add_assoc, A.at h2]
  · have e1 : (tl y)[n + i + 1]? = some 32 := by
      rw [Nat.add_assoc]
      exact A.behind (.inl (by omega))
    have e2 : (tl z)[i + 1]? = none := List.getElem?_eq_none_iff.mpr (by omega)
    rw [e1, e2]
    constructor
    · rintro ⟨a, _, h, _⟩
      cases h
    · rintro ⟨a, _, h, _⟩
      cases h
theorem Around_.word (A : Around_ z y n) {i c : Nat} (h : i < (tl z).length) : wordEnd y (n + i) c = n + wordEnd z i c := by
  unfold wordEnd
  rw [A.pair h, A.run (by decide +kernel) rfl (Nat.le_of_lt h), A.run (by decide +kernel) rfl (Nat.le_of_lt h)]
  split
  · rfl
  · split
    · rfl
    · split
      · omega
      · split <;> omega
theorem Around_.cut (A : Around_ z y n) {i j : Nat} (h : i ≤ j) (hj : j ≤ z.length) : cutS y (some ((n + i : Nat) : Int)) (some ((n + j : Nat) : Int)) = cutS z (some (i : Int)) (some (j : Int)) := by
  have hl := A.len
  have hz : z.length = (tl z).length := str_len z
  refine str_ext ?_
  rw [cutS_nat y (by omega) (by omega), cutS_nat z (by omega) hj]
  show List.take (n + j - (n + i)) (List.drop (n + i) (tl y)) = List.take (j - i) (List.drop i (tl z))
  rw [A.eq, List.append_assoc, List.drop_append, List.drop_of_length_le (by simp), List.nil_append, List.length_replicate, Nat.add_sub_cancel_left, List.drop_append_of_le_length (by omega), List.take_append_of_le_length (by rw [List.length_drop]; omega), show n + j - (n + i) = j - i by omega]
theorem Around_.go (A : Around_ z y n) : ∀ {k i : Nat} {acc : List Str}, k = z.length - i → i ≤ z.length → from_ y (n + i) acc = from_ z i acc := by
  have hz : z.length = (tl z).length := str_len z
  have hl := A.len
  intro k
  induction k using Nat.strongRecOn with
  | _ k ih =>
    intro i acc hk hi
    by_cases hlt : i < (tl z).length
    · have e := List.getElem?_eq_getElem hlt
      have g := A.at hlt
      rw [e] at g
      rw [from_step g, from_step e, A.word hlt]
      have w1 := wordEnd_ge z i (tl z)[i]
      have w2 := wordEnd_le e
      split
      · rw [Nat.add_assoc]
        exact ih _ (by omega) rfl (by omega)
      · by_cases h2 : wordEnd z i (tl z)[i] = i
        · rw [if_pos (by omega), if_pos h2]
        · rw [if_neg (by omega), if_neg h2, A.cut w1 w2]
          exact ih _ (by omega) rfl (by omega)
    · have e : i = (tl z).length := by omega
      rw [from_step (A.behind (.inl e)), if_pos rfl, Nat.add_assoc, from_step (A.behind (.inr (by omega))), if_pos rfl, from_out (by omega), from_out (by omega)]
theorem Around_.words (A : Around_ z y n) : wordsW y = wordsW z := by
  have hl := A.len
  have h : ∀ m, m ≤ n → from_ y m [] = from_ y 0 [] := fun m => by
    induction m with
    | zero => intro _; rfl
    | succ m ih =>
      intro hm
      rw [← ih (by omega), from_step (i := m) (A.ahead (by omega)), if_pos rfl]
  unfold wordsW
  rw [← h n (Nat.le_refl _)]
  exact A.go (i := 0) rfl (Nat.zero_le _)
end
theorem around_mk (z : Str) (k : Int) : Around_ z (repS (" " : Str) k ++ z ++ ("  " : Str)) k.toNat := by
  refine ⟨?_⟩
  show ((repS (" " : Str) k ++ z ++ ("  " : Str)) : Str).cps.toList = _
  rw [app_tl, app_tl]
  have e1 : (repS (" " : Str) k).cps.toList = List.replicate k.toNat 32 := by
    unfold repS
    have e : ((" " : Str)).cps.toList = [32] := by decide +kernel
    rw [e]
    simp
  have e2 : (("  " : Str)).cps.toList = [32, 32] := by decide +kernel
  rw [e1, e2]
/-! ### the words by what is left -/
def mkS (l : List Nat) : Str := ⟨l.toArray⟩
theorem mkS_tl (l : List Nat) : tl (mkS l) = l := by simp [mkS]
theorem tl_mkS (z : Str) : mkS (tl z) = z := str_ext (by simp [mkS])
abbrev EQS : List Nat := [60, 62, 61, 33]
def wordLen : List Nat → Nat
  | [] => 0
  | c :: r => if c ∈ tl LET then 1 + (r.takeWhile fun d => decide (d ∈ tl LET)).length else if c ∈ tl DIG then 1 + (r.takeWhile fun d => decide (d ∈ tl DIG)).length
    else if r.head? = some 61 ∧ c ∈ EQS then 2 else if c ∈ tl SHO then 1 else 0
theorem wordLen_cons (c : Nat) (r : List Nat) : wordLen (c :: r) = if c ∈ tl LET then 1 + (r.takeWhile fun d => decide (d ∈ tl LET)).length else if c ∈ tl DIG then 1 + (r.takeWhile fun d => decide (d ∈ tl DIG)).length
    else if r.head? = some 61 ∧ c ∈ EQS then 2 else if c ∈ tl SHO then 1 else 0 := rfl
theorem wordLen_le : ∀ l : List Nat, wordLen l ≤ l.length
  | [] => Nat.le_refl _
  | c :: r => by
    show (if c ∈ tl LET then _ else if c ∈ tl DIG then _ else if r.head? = some 61 ∧ c ∈ EQS then 2 else if c ∈ tl SHO then 1 else 0) ≤ (c :: r).length
    have h : ∀ p : Nat → Bool, (r.takeWhile p).length ≤ r.length := fun p => (List.takeWhile_prefix p).length_le
    have h1 := h fun d => decide (d ∈ tl LET)
    have h2 := h fun d => decide (d ∈ tl DIG)
    rw [List.length_cons]
    split
    · omega
    · split
      · omega
      · split
        · rename_i h3
          cases r with
          | nil => simp at h3
          | cons x r => rw [List.length_cons]; omega
        · split <;> omega
theorem wordEnd_len {z : Str} {i c : Nat} (e : (tl z)[i]? = some c) : wordEnd z i c = i + wordLen ((tl z).drop i) := by
  obtain ⟨hi, v⟩ := List.getElem?_eq_some_iff.mp e
  rw [List.drop_eq_getElem_cons hi, v]
  unfold wordEnd
  rw [wordLen_cons]
  have hp : pairAt z i = true ↔ ((tl z).drop (i + 1)).head? = some 61 ∧ c ∈ EQS := by
    rw [pair_cps, List.head?_drop, e]
    constructor
    · rintro ⟨a, h1, h2, h3⟩
      have h1 := Option.some.inj h1
      subst h1
      refine ⟨h2, ?_⟩
      simp only [List.mem_cons, List.not_mem_nil, or_false]
      omega
    · rintro ⟨h1, h2⟩
      refine ⟨c, rfl, h1, ?_⟩
      simp only [List.mem_cons, List.not_mem_nil, or_false] at h2
      omega
  have hr : ∀ p : List Nat, c ∈ p → runEnd (tl z) p i = i + (1 + (((tl z).drop (i + 1)).takeWhile fun d => decide (d ∈ p)).length) := fun p h => by
    unfold runEnd
    rw [List.drop_eq_getElem_cons hi, v, List.takeWhile_cons_of_pos (by simpa using h), List.length_cons]
    omega
  by_cases h1 : c ∈ tl LET
  · rw [if_pos h1, if_pos h1, hr _ h1]
  · rw [if_neg h1, if_neg h1]
    by_cases h2 : c ∈ tl DIG
    · rw [if_pos h2, if_pos h2, hr _ h2]
    · rw [if_neg h2, if_neg h2]
      by_cases h3 : pairAt z i = true
      · rw [if_pos h3, if_pos (hp.mp h3)]
      · rw [if_neg h3, if_neg (fun h => h3 (hp.mpr h))]
        split <;> rfl
def lex : Nat → List Nat → Option (List (List Nat))
  | 0, _ => some []
  | _ + 1, [] => some []
  | n + 1, c :: r => if c = 32 then lex n r else if wordLen (c :: r) = 0 then none else (lex n ((c :: r).drop (wordLen (c :: r)))).map ((c :: r).take (wordLen (c :: r)) :: ·)
theorem lex_nil (n : Nat) : lex n [] = some [] := by
  cases n <;> rfl
theorem lex_fuel : ∀ {n m : Nat} {l : List Nat}, l.length ≤ n → l.length ≤ m → lex n l = lex m l
  | 0, m, l, h, _ => by
    have e : l = [] := List.length_eq_zero_iff.mp (by omega)
    subst e
    rw [lex_nil, lex_nil]
  | n + 1, 0, l, _, h => by
    have e : l = [] := List.length_eq_zero_iff.mp (by omega)
    subst e
    rw [lex_nil, lex_nil]
  | n + 1, m + 1, [], _, _ => rfl
  | n + 1, m + 1, c :: r, h1, h2 => by
    rw [List.length_cons] at h1 h2
    unfold lex
    split
    · exact lex_fuel (by omega) (by omega)
    · split
      · rfl
      · rename_i h3
        have hd : ((c :: r).drop (wordLen (c :: r))).length ≤ r.length := by
          rw [List.length_drop, List.length_cons]
          omega
        rw [lex_fuel (n := n) (m := m) (by omega) (by omega)]
def lexL (l : List Nat) : Option (List (List Nat)) := lex l.length l
theorem lexL_nil : lexL [] = some [] := rfl
theorem lexL_space (r : List Nat) : lexL (32 :: r) = lexL r := by
  rfl
theorem lexL_word {c : Nat} {r : List Nat} (h : c ≠ 32) : lexL (c :: r) = if wordLen (c :: r) = 0 then none else (lexL ((c :: r).drop (wordLen (c :: r)))).map ((c :: r).take (wordLen (c :: r)) :: ·) := by
  show (if c = 32 then lex r.length r else if wordLen (c :: r) = 0 then none else (lex r.length ((c :: r).drop (wordLen (c :: r)))).map ((c :: r).take (wordLen (c :: r)) :: ·)) = _
  rw [if_neg h]
  split
  · rfl
  · rename_i h3
    have hd : ((c :: r).drop (wordLen (c :: r))).length ≤ r.length := by
      rw [List.length_drop, List.length_cons]
      omega
    unfold lexL
    rw [lex_fuel hd (Nat.le_refl _)]
theorem lexL_spaces : ∀ (n : Nat) (r : List Nat), lexL (List.replicate n 32 ++ r) = lexL r
  | 0, r => rfl
  | n + 1, r => by
    rw [List.replicate_succ, List.cons_append, lexL_space, lexL_spaces n r]
theorem from_lex {z : Str} : ∀ {k i : Nat} {acc : List Str}, k = z.length - i → i ≤ z.length → from_ z i acc = (lexL ((tl z).drop i)).map fun ws => acc ++ ws.map mkS := by
  have hz : z.length = (tl z).length := str_len z
  intro k
  induction k using Nat.strongRecOn with
  | _ k ih =>
    intro i acc hk hi
    by_cases hlt : i < (tl z).length
    · have e := List.getElem?_eq_getElem hlt
      have hd := List.drop_eq_getElem_cons hlt
      rw [from_step e, wordEnd_len e]
      have w := wordLen_le ((tl z).drop i)
      rw [List.length_drop] at w
      by_cases h : (tl z)[i] = 32
      · rw [if_pos h, hd, h, lexL_space]
        exact ih _ (by omega) rfl (by omega)
      · rw [if_neg h]
        have hx : lexL ((tl z).drop i) = if wordLen ((tl z).drop i) = 0 then none else (lexL (((tl z).drop i).drop (wordLen ((tl z).drop i)))).map (((tl z).drop i).take (wordLen ((tl z).drop i)) :: ·) := by
          rw [hd]
          exact lexL_word h
        rw [hx]
        by_cases h2 : wordLen ((tl z).drop i) = 0
        · rw [if_pos (by omega), if_pos h2]
          rfl
        · rw [if_neg (by omega), if_neg h2, ih _ (by omega) rfl (by omega), List.drop_drop, Option.map_map]
          congr 1
          funext ws
          show acc ++ [_] ++ ws.map mkS = acc ++ (_ :: ws.map mkS)
          rw [List.append_assoc]
          congr 1
          show _ :: ws.map mkS = _ :: ws.map mkS
          congr 1
          refine str_ext ?_
          have e3 := cutS_nat z (i := i) (j := i + wordLen ((tl z).drop i)) (by omega) (by omega)
          rw [e3, Nat.add_sub_cancel_left, show (mkS _).cps.toList = _ from mkS_tl _]
    · have e : i = (tl z).length := by omega
      rw [from_out (by omega), List.drop_of_length_le (by omega)]
      show some acc = some (acc ++ [])
      rw [List.append_nil]
theorem words_lex (z : Str) : wordsW z = (lexL (tl z)).map (·.map mkS) := by
  unfold wordsW
  rw [from_lex (i := 0) rfl (Nat.zero_le _), List.drop_zero]
  congr 1
/-- a text that is one word -/
def joinsC (a c : Nat) : Prop := (a ∈ tl LET ∧ c ∈ tl LET) ∨ (a ∈ tl DIG ∧ c ∈ tl DIG) ∨ (a ∈ EQS ∧ c ∈ EQS)
def okNext (w rest : List Nat) : Prop := rest = [] ∨ ∃ a c r, w.getLast? = some a ∧ rest = c :: r ∧ ¬ joinsC a c
structure IsTok (w : List Nat) : Prop where
  ne : ∃ c r, w = c :: r ∧ c ≠ 32
  len : ∀ rest, okNext w rest → wordLen (w ++ rest) = w.length
theorem lexL_tok {w rest : List Nat} (h : IsTok w) (n : okNext w rest) : lexL (w ++ rest) = (lexL rest).map (w :: ·) := by
  obtain ⟨c, r, e, hc⟩ := h.ne
  have hl := h.len rest n
  subst e
  rw [List.cons_append] at hl ⊢
  rw [lexL_word hc, hl, if_neg (by simp)]
  have e1 : (c :: (r ++ rest)).drop (c :: r).length = rest := by
    rw [← List.cons_append, List.drop_left]
  have e2 : (c :: (r ++ rest)).take (c :: r).length = c :: r := by
    rw [← List.cons_append, List.take_left]
  rw [e1, e2]
theorem takeWhile_run {p : Nat → Bool} {w rest : List Nat} (h : ∀ c ∈ w, p c = true) (n : rest = [] ∨ ∃ c r, rest = c :: r ∧ p c = false) : (w ++ rest).takeWhile p = w := by
  induction w with
  | nil =>
    rcases n with rfl | ⟨c, r, rfl, h2⟩
    · rfl
    · rw [List.nil_append, List.takeWhile_cons_of_neg (by rw [h2]; simp)]
  | cons x w ih =>
    rw [List.cons_append, List.takeWhile_cons_of_pos (h x List.mem_cons_self), ih fun c hc => h c (List.mem_cons_of_mem _ hc)]
theorem getLast_mem' {w : List Nat} {a : Nat} (h : w.getLast? = some a) : a ∈ w := List.mem_of_getLast? h
theorem let32 : ∀ c ∈ tl LET, c ≠ 32 := by decide +kernel
theorem dig32 : ∀ c ∈ tl DIG, c ≠ 32 ∧ c ∉ tl LET := by decide +kernel
theorem sho32 : ∀ c ∈ tl SHO, c ≠ 32 ∧ c ∉ tl LET ∧ c ∉ tl DIG := by decide +kernel
theorem eqs32 : ∀ c ∈ EQS, c ≠ 32 ∧ c ∉ tl LET ∧ c ∉ tl DIG := by decide +kernel
theorem tok_let {w : List Nat} (ne : w ≠ []) (h : ∀ c ∈ w, c ∈ tl LET) : IsTok w := by
  obtain ⟨c, r, rfl⟩ := List.exists_cons_of_ne_nil ne
  have hc := h c List.mem_cons_self
  refine ⟨⟨c, r, rfl, let32 c hc⟩, fun rest n => ?_⟩
  rw [List.cons_append]
  rw [wordLen_cons]
  rw [if_pos hc, takeWhile_run (w := r) (fun d hd => by simpa using h d (List.mem_cons_of_mem _ hd)), List.length_cons, Nat.add_comm]
  rcases n with rfl | ⟨a, d, q, ha, rfl, hn⟩
  · exact .inl rfl
  · exact .inr ⟨d, q, rfl, decide_eq_false fun hd => hn (.inl ⟨h a (getLast_mem' ha), hd⟩)⟩
theorem tok_dig {w : List Nat} (ne : w ≠ []) (h : ∀ c ∈ w, c ∈ tl DIG) : IsTok w := by
  obtain ⟨c, r, rfl⟩ := List.exists_cons_of_ne_nil ne
  have hc := h c List.mem_cons_self
  refine ⟨⟨c, r, rfl, (dig32 c hc).1⟩, fun rest n => ?_⟩
  rw [List.cons_append]
  rw [wordLen_cons]
  rw [if_neg (dig32 c hc).2, if_pos hc, takeWhile_run (w := r) (fun d hd => by simpa using h d (List.mem_cons_of_mem _ hd)), List.length_cons, Nat.add_comm]
  rcases n with rfl | ⟨a, d, q, ha, rfl, hn⟩
  · exact .inl rfl
  · exact .inr ⟨d, q, rfl, decide_eq_false fun hd => hn (.inr (.inl ⟨h a (getLast_mem' ha), hd⟩))⟩
theorem tok_one {c : Nat} (h : c ∈ tl SHO) : IsTok [c] := by
  obtain ⟨h1, h2, h3⟩ := sho32 c h
  refine ⟨⟨c, [], rfl, h1⟩, fun rest n => ?_⟩
  show wordLen (c :: rest) = 1
  rw [wordLen_cons]
  rw [if_neg h2, if_neg h3, if_neg, if_pos h]
  rintro ⟨h4, h5⟩
  rcases n with rfl | ⟨a, d, q, ha, rfl, hn⟩
  · cases h4
  · have e1 : d = 61 := Option.some.inj h4
    have e2 : c = a := Option.some.inj ha
    exact hn (.inr (.inr ⟨e2 ▸ h5, by rw [e1]; decide⟩))
theorem tok_two {c : Nat} (h : c ∈ EQS) : IsTok [c, 61] := by
  obtain ⟨h1, h2, h3⟩ := eqs32 c h
  refine ⟨⟨c, [61], rfl, h1⟩, fun rest n => ?_⟩
  show wordLen (c :: 61 :: rest) = 2
  rw [wordLen_cons]
  rw [if_neg h2, if_neg h3, if_pos ⟨rfl, h⟩]
end WM
namespace W3
open PySem PySem.Spec PyProof.Rows L2 Wy WM
/-! ### numbers as words -/
def dv (z : Str) : Int := ((NumText.digitsVal (tl z) : Nat) : Int)
theorem dig_range : ∀ c ∈ tl DIG, 48 ≤ c ∧ c ≤ 57 := by decide +kernel
theorem dig_mem {c : Nat} (h : 48 ≤ c ∧ c ≤ 57) : c ∈ tl DIG := by
  have : ∀ k, k < 10 → 48 + k ∈ tl DIG := by decide +kernel
  have e := this (c - 48) (by omega)
  rwa [show 48 + (c - 48) = c by omega] at e
theorem number_parts {z : Str} (h : numberW z = true) : 1 ≤ z.length ∧ z.length ≤ 10 ∧ (∀ c ∈ tl z, c ∈ tl DIG) := by
  unfold numberW at h
  simp only [Bool.and_eq_true, decide_eq_true_eq] at h
  exact ⟨h.1.1.1, h.1.1.2, h.1.2⟩
theorem ne_of_len {z : Str} (h : 1 ≤ z.length) : tl z ≠ [] := by
  intro e
  rw [str_len] at h
  rw [show z.cps.toList = [] from e] at h
  simp at h
theorem number_int {z : Str} (h : numberW z = true) : intText? z = some (dv z) ∧ z.length ≤ 640 := by
  obtain ⟨h1, h2, h3⟩ := number_parts h
  exact ⟨intText_digits (fun c hc => dig_range c (h3 c hc)) (ne_of_len h1) (by omega), by omega⟩
theorem minus_int {z : Str} (h : numberW z = true) : intText? (("-" : Str) ++ z) = some (-dv z) ∧ (("-" : Str) ++ z).length ≤ 640 := by
  obtain ⟨h1, h2, h3⟩ := number_parts h
  have hl : (("-" : Str) ++ z).length = 1 + z.length := app_len _ _
  exact ⟨intText_neg (cs := tl z) (by rw [app_tl]; rfl) (fun c hc => dig_range c (h3 c hc)) (ne_of_len h1) (by omega), by omega⟩
open NumText in
theorem plus_int {z : Str} (h : numberW z = true) : intText? (("+" : Str) ++ z) = some (dv z) ∧ (("+" : Str) ++ z).length ≤ 640 := by
  obtain ⟨g1, g2, g3⟩ := number_parts h
  have hl : (("+" : Str) ++ z).length = 1 + z.length := app_len _ _
  have hd : AllDigits (tl z) := fun c hc => dig_range c (g3 c hc)
  have hx : (("+" : Str) ++ z).cps.toList = 43 :: tl z := by rw [app_tl]; rfl
  have h1 : tl z ≠ [] := ne_of_len g1
  refine ⟨?_, by omega⟩
  have lo : ∀ c ∈ (("+" : Str) ++ z).cps.toList, c ≠ 0 ∧ c < 128 := by
    rw [hx]
    intro c hc
    rcases List.mem_cons.mp hc with e | hc
    · omega
    · have := hd c hc
      omega
  have e1 : numTextOf (("+" : Str) ++ z) = (("+" : Str) ++ z).cps.toList := if_pos (by
    rw [← Array.all_toList, List.all_eq_true]
    exact fun c hc => decide_eq_true (lo c hc).2)
  have e2 : numSeenOf (("+" : Str) ++ z) = (("+" : Str) ++ z).cps.toList := by
    show (numTextOf (("+" : Str) ++ z)).takeWhile _ = _
    rw [e1]
    exact takeWhile_all fun c hc => bne_iff_ne.mpr (lo c hc).1
  have es : sign ((43 :: tl z).dropWhile blank) = (false, tl z) := by rw [dropWhile_of (by decide)]; rfl
  have ec : core (43 :: tl z) = tl z := by
    unfold core
    rw [es]
    show ((tl z).reverse.dropWhile blank).reverse = tl z
    rw [dropWhile_digits hd.reverse, List.reverse_reverse]
  unfold intText?
  rw [e1, e2, hx, if_pos (beq_self_eq_true _), ec, es, digits_of hd h1]
  have hsz := push_size (tl z) #[]
  have hv := push_foldl (tl z) #[]
  have hzl : (tl z).length = z.length := (str_len z).symm
  show (if _ ≤ 4300 then some (worth false _) else none) = _
  rw [if_pos (by rw [hsz]; simp only [Array.size_empty]; omega)]
  unfold worth dv digitsVal
  rw [hv]
  rfl
/-- a number's text -/
def numS (n : Nat) : Str := Str.ofString (toString ((n : Nat) : Int))
theorem numS_tl (n : Nat) : tl (numS n) = TL.numL n := TL.tl_num n
theorem numL_head {n : Nat} (h : 0 < n) : (TL.numL n)[0]? ≠ some 48 := by
  induction n using Nat.strongRecOn with
  | _ n ih =>
    by_cases h10 : n < 10
    · rw [TL.numL_lt h10]
      intro e
      have : 48 + n = 48 := Option.some.inj e
      omega
    · rw [TL.numL_step (by omega)]
      intro e
      have hne := TL.numL_ne (n / 10)
      rw [List.getElem?_append_left (List.length_pos_iff.mpr hne)] at e
      exact ih (n / 10) (by omega) (by omega) e
theorem numS_len {n : Nat} (h : n < 10 ^ 10) : 1 ≤ (numS n).length ∧ (numS n).length ≤ 10 := by
  rw [str_len]
  show 1 ≤ (tl (numS n)).length ∧ (tl (numS n)).length ≤ 10
  rw [numS_tl]
  exact ⟨List.length_pos_iff.mpr (TL.numL_ne n), TL.numL_len (by decide) h⟩
theorem numS_number {n : Nat} (h : n < 10 ^ 10) : numberW (numS n) = true := by
  obtain ⟨h1, h2⟩ := numS_len h
  unfold numberW
  rw [decide_eq_true h1, decide_eq_true h2, numS_tl, decide_eq_true (fun c hc => dig_mem (TL.numL_digits n c hc))]
  by_cases h0 : n = 0
  · subst h0
    decide +kernel
  · rw [decide_eq_false (numL_head (by omega))]
    simp
theorem numS_dv (n : Nat) : dv (numS n) = n := by
  unfold dv
  rw [numS_tl, TL.numL_val]
theorem toStr_nat {i : Int} (h : 0 ≤ i) : Str.ofString (toString i) = numS i.toNat := by
  unfold numS
  rw [Int.toNat_of_nonneg h]
theorem name_parts {z : Str} (h : nameW z = true) : 1 ≤ z.length ∧ z.length ≤ 12 ∧ inV (.str z) RESV = false ∧ ∀ c ∈ tl z, c ∈ tl LET := by
  unfold nameW at h
  simp only [Bool.and_eq_true, decide_eq_true_eq, Bool.not_eq_true'] at h
  exact ⟨h.1.1.1, h.1.1.2, h.1.2, h.2⟩
theorem name_not_number {z : Str} (h : nameW z = true) : numberW z = false := by
  cases e : numberW z with
  | false => rfl
  | true =>
    obtain ⟨h1, _, _, h4⟩ := name_parts h
    obtain ⟨_, _, g3⟩ := number_parts e
    obtain ⟨c, r, e⟩ := List.exists_cons_of_ne_nil (ne_of_len h1)
    have a := h4 c (by rw [e]; exact List.mem_cons_self)
    have b := g3 c (by rw [e]; exact List.mem_cons_self)
    exact absurd a (dig32 c b).2
theorem name_ne {z y : Str} (h : nameW z = true) (hy : nameW y = false) : z ≠ y := by
  intro e
  rw [e, hy] at h
  cases h
theorem number_ne {z y : Str} (h : numberW z = true) (hy : numberW y = false) : z ≠ y := by
  intro e
  rw [e, hy] at h
  cases h
/-! ### expressions -/
inductive Ex where
  | num (n : Int)
  | var (x : Str) (p : Int)
  | item (x : Str) (i : Ex) (p : Int)
  deriving DecidableEq
def Ex.d : Ex → PyData
  | .num n => .tuple [.str "num", .int n]
  | .var x p => .tuple [.str "var", .str x, .int p]
  | .item x i p => .tuple [.str "item", .str x, i.d, .int p]
def wordAt (ws : List Str) (i : Nat) : Str := ws.getD i ""
def takeSigned (ws : List Str) (i : Nat) : Option (Int × Nat) :=
  if numberW (wordAt ws i) = true then some (dv (wordAt ws i), i + 1) else if wordAt ws i = "-" ∧ numberW (wordAt ws (i + 1)) = true then some (-dv (wordAt ws (i + 1)), i + 2) else none
def takePlus (ws : List Str) (i : Nat) : Option (Int × Nat) :=
  if wordAt ws i = "+" ∨ wordAt ws i = "-" then (if numberW (wordAt ws (i + 1)) = true then some (if wordAt ws i = "+" then dv (wordAt ws (i + 1)) else -dv (wordAt ws (i + 1)), i + 2) else none) else some (0, i)
def takePlain (ws : List Str) (i : Nat) : Option (Ex × Nat) :=
  if nameW (wordAt ws i) = true then (match takePlus ws (i + 1) with | none => none | some (p, j) => some (.var (wordAt ws i) p, j))
  else (match takeSigned ws i with | none => none | some (n, j) => some (.num n, j))
def takeExpr (ws : List Str) (i : Nat) : Option (Ex × Nat) :=
  if nameW (wordAt ws i) = true ∧ wordAt ws (i + 1) = "[" then (match takePlain ws (i + 2) with
    | none => none
    | some (x, j) => if wordAt ws j = "]" then (match takePlus ws (j + 1) with | none => none | some (p, k) => some (.item (wordAt ws i) x p, k)) else none)
  else takePlain ws i
def wholeE (t : Option (Ex × Nat)) (n : Nat) : Option Ex := match t with
  | none => none
  | some (e, j) => if j = n then some e else none
def readW (ws : List Str) : Option Ex := wholeE (takeExpr ws 0) ws.length
def iD : Option (Int × Nat) → PyData
  | none => .none
  | some (n, j) => .tuple [.int n, .int (j : Int)]
def eD : Option (Ex × Nat) → PyData
  | none => .none
  | some (e, j) => .tuple [e.d, .int (j : Int)]
def oD : Option Ex → PyData
  | none => .none
  | some e => e.d
theorem wordAt_in {ws : List Str} {i : Nat} (h : i < ws.length) : wordAt ws i = ws[i] := by
  unfold wordAt
  rw [List.getD_eq_getElem?_getD, List.getElem?_eq_getElem h]
  rfl
theorem wordAt_out {ws : List Str} {i : Nat} (h : ws.length ≤ i) : wordAt ws i = "" := by
  unfold wordAt
  rw [List.getD_eq_getElem?_getD, List.getElem?_eq_none h]
  rfl
theorem wordAt_lt {ws : List Str} {i : Nat} (h : wordAt ws i ≠ "") : i < ws.length := by
  by_cases hi : i < ws.length
  · exact hi
  · exact absurd (wordAt_out (by omega)) h
theorem no_num : numberW ("" : Str) = false := by decide +kernel
theorem no_name : nameW ("" : Str) = false := by decide +kernel
theorem number_lt {ws : List Str} {i : Nat} (h : numberW (wordAt ws i) = true) : i < ws.length := wordAt_lt (number_ne h no_num)
theorem name_lt {ws : List Str} {i : Nat} (h : nameW (wordAt ws i) = true) : i < ws.length := wordAt_lt (name_ne h no_name)
structure SmallW (ws : List Str) : Prop where
  len : ws.length ≤ 10000
  each : ∀ y ∈ ws, y.length ≤ 10000
theorem SmallW.at {ws : List Str} (s : SmallW ws) (i : Nat) : (wordAt ws i).length ≤ 10000 := by
  by_cases hi : i < ws.length
  · rw [wordAt_in hi]
    exact s.each _ (List.getElem_mem hi)
  · rw [wordAt_out (by omega)]
    exact Nat.zero_le _
theorem SmallW.at6 {ws : List Str} (s : SmallW ws) (i : Nat) : (wordAt ws i).length ≤ 1000000 := Nat.le_trans (s.at i) (by decide)
theorem dv_bound {z : Str} (h : numberW z = true) : 0 ≤ dv z ∧ dv z < 10 ^ 10 := by
  obtain ⟨h1, h2, h3⟩ := number_parts h
  refine ⟨Int.natCast_nonneg _, ?_⟩
  have key : ∀ (cs : List Nat) (acc : Nat), (∀ c ∈ cs, c ≤ 57) → cs.foldl (fun acc c => acc * 10 + (c - 48)) acc < (acc + 1) * 10 ^ cs.length := by
    intro cs
    induction cs with
    | nil => intro acc _; simp
    | cons c cs ih =>
      intro acc h
      have h1 := ih (acc * 10 + (c - 48)) (fun d hd => h d (List.mem_cons_of_mem _ hd))
      have h2 := h c List.mem_cons_self
      rw [List.foldl_cons, List.length_cons, Nat.pow_succ']
      refine Nat.lt_of_lt_of_le h1 ?_
      rw [← Nat.mul_assoc]
      exact Nat.mul_le_mul_right _ (by omega)
  have h5 := key (tl z) 0 (fun c hc => (dig_range c (h3 c hc)).2)
  have h6 : (10 : Nat) ^ (tl z).length ≤ 10 ^ 10 := Nat.pow_le_pow_right (by decide) (by rw [← str_len]; exact h2)
  unfold dv NumText.digitsVal
  omega
end W3
namespace W4
open PySem PySem.Spec PyProof.Rows L2 Wy WM W3
theorem tl_app (x y : Str) : tl (x ++ y) = tl x ++ tl y := app_tl x y
theorem ofString_app (a b : String) : Str.ofString (a ++ b) = Str.ofString a ++ Str.ofString b := by
  refine str_ext ?_
  rw [app_tl, Str.ofString_eq_toList, Str.ofString_eq_toList, Str.ofString_eq_toList]
  simp
theorem toStr_neg {i : Int} (h : i < 0) : Str.ofString (toString i) = ("-" : Str) ++ numS (-i).toNat := by
  rw [PyProof.Rows.toString_neg h, ofString_app, toStr_nat (by omega), show 0 - i = -i by omega]
/-- a number's text, of either sign -/
def intS (n : Int) : Str := Str.ofString (toString n)
theorem intS_tl (n : Int) : tl (intS n) = if n < 0 then 45 :: TL.numL (-n).toNat else TL.numL n.toNat := by
  unfold intS
  by_cases h : n < 0
  · rw [if_pos h, toStr_neg h, tl_app, numS_tl]
    rfl
  · rw [if_neg h, toStr_nat (by omega), numS_tl]
theorem intS_len {n : Int} (h : n.natAbs < 10 ^ 10) : (intS n).length ≤ 11 := by
  rw [str_len]
  show (tl (intS n)).length ≤ 11
  rw [intS_tl]
  split
  · rw [List.length_cons]
    have := TL.numL_len (n := (-n).toNat) (k := 10) (by decide) (by omega)
    omega
  · have := TL.numL_len (n := n.toNat) (k := 10) (by decide) (by omega)
    omega
def plusS (p : Int) : Str := if p = 0 then "" else if 0 < p then (" + " : Str) ++ numS p.toNat else (" - " : Str) ++ numS (-p).toNat
def textE : Ex → Str
  | .num n => intS n
  | .var x p => x ++ plusS p
  | .item x i p => x ++ ("[" : Str) ++ textE i ++ ("]" : Str) ++ plusS p
def plusW (p : Int) : List Str := if p = 0 then [] else [if 0 < p then "+" else "-", numS p.natAbs]
def wordsE : Ex → List Str
  | .num n => if n < 0 then ["-", numS (-n).toNat] else [numS n.toNat]
  | .var x p => x :: plusW p
  | .item x i p => [x, ("[" : Str)] ++ wordsE i ++ [("]" : Str)] ++ plusW p
def Plain : Ex → Prop
  | .num n => n.natAbs < 10 ^ 10
  | .var x p => nameW x = true ∧ p.natAbs < 10 ^ 10
  | .item _ _ _ => False
def Good : Ex → Prop
  | .num n => n.natAbs < 10 ^ 10
  | .var x p => nameW x = true ∧ p.natAbs < 10 ^ 10
  | .item x i p => nameW x = true ∧ Plain i ∧ p.natAbs < 10 ^ 10
theorem Plain.good {e : Ex} (h : Plain e) : Good e := by
  cases e with
  | num n => exact h
  | var x p => exact h
  | item x i p => exact h.elim
theorem numS_len10 {n : Nat} (h : n < 10 ^ 10) : (numS n).length ≤ 10 := (numS_len h).2
theorem plusS_len {p : Int} (h : p.natAbs < 10 ^ 10) : (plusS p).length ≤ 13 := by
  unfold plusS
  split
  · exact Nat.zero_le _
  · split
    · rw [app_len]
      have := numS_len10 (n := p.toNat) (by omega)
      show 3 + _ ≤ _
      omega
    · rw [app_len]
      have := numS_len10 (n := (-p).toNat) (by omega)
      show 3 + _ ≤ _
      omega
theorem plain_len {e : Ex} (h : Plain e) : (textE e).length ≤ 30 := by
  cases e with
  | num n =>
    have := intS_len h
    show (intS n).length ≤ 30
    omega
  | var x p =>
    have h1 := (name_parts h.1).2.1
    have h2 := plusS_len h.2
    show (x ++ plusS p).length ≤ 30
    rw [app_len]
    omega
  | item x i p => exact h.elim
theorem good_len {e : Ex} (h : Good e) : (textE e).length ≤ 60 := by
  cases e with
  | num n =>
    have := intS_len h
    show (intS n).length ≤ 60
    omega
  | var x p =>
    have h1 := (name_parts h.1).2.1
    have h2 := plusS_len h.2
    show (x ++ plusS p).length ≤ 60
    rw [app_len]
    omega
  | item x i p =>
    have h1 := (name_parts h.1).2.1
    have h2 := plusS_len h.2.2
    have h3 := plain_len h.2.1
    show (x ++ ("[" : Str) ++ textE i ++ ("]" : Str) ++ plusS p).length ≤ 60
    rw [app_len, app_len, app_len, app_len]
    show _ + 1 + _ + 1 + _ ≤ 60
    omega
/-! ### words with spaces between them -/
def joinsLH (w v : List Nat) : Prop := ∃ a c, w.getLast? = some a ∧ v.head? = some c ∧ joinsC a c
def glue : List (List Nat × Nat) → List Nat
  | [] => []
  | (w, n) :: r => w ++ (List.replicate n 32 ++ glue r)
def GlueOk : List (List Nat × Nat) → Prop
  | [] => True
  | [(w, _)] => IsTok w
  | (w, n) :: (v, m) :: r => IsTok w ∧ (0 < n ∨ ¬ joinsLH w v) ∧ GlueOk ((v, m) :: r)
theorem joins32 {a : Nat} : ¬ joinsC a 32 := by
  rintro (⟨_, h⟩ | ⟨_, h⟩ | ⟨_, h⟩)
  · exact let32 32 h rfl
  · exact (dig32 32 h).1 rfl
  · exact (eqs32 32 h).1 rfl
theorem _root_.WM.IsTok.last {w : List Nat} (h : IsTok w) : ∃ a, w.getLast? = some a := by
  obtain ⟨c, r, e, _⟩ := h.ne
  rw [e, List.getLast?_cons]
  exact ⟨_, rfl⟩
theorem glue_next {w : List Nat} (h : IsTok w) {n : Nat} {rest : List Nat} (k : 0 < n ∨ okNext w rest) : okNext w (List.replicate n 32 ++ rest) := by
  obtain ⟨a, ha⟩ := h.last
  cases n with
  | zero =>
    rcases k with k | k
    · omega
    · exact k
  | succ n =>
    rw [List.replicate_succ]
    exact .inr ⟨a, 32, _, ha, rfl, joins32⟩
theorem lex_glue : ∀ {l : List (List Nat × Nat)}, GlueOk l → lexL (glue l) = some (l.map (·.1))
  | [], _ => rfl
  | [(w, n)], h => by
    have h : IsTok w := h
    show lexL (w ++ (List.replicate n 32 ++ [])) = _
    rw [lexL_tok h, lexL_spaces]
    · rfl
    · refine glue_next h (.inr (.inl rfl))
  | (w, n) :: (v, m) :: r, h => by
    obtain ⟨h1, h2, h3⟩ := h
    show lexL (w ++ (List.replicate n 32 ++ glue ((v, m) :: r))) = _
    rw [lexL_tok h1, lexL_spaces, lex_glue h3]
    · rfl
    · refine glue_next h1 (h2.imp id fun h => ?_)
      have hv : IsTok v := by
        cases r with
        | nil => exact h3
        | cons x r => exact h3.1
      obtain ⟨c, q, e, _⟩ := hv.ne
      obtain ⟨a, ha⟩ := h1.last
      refine .inr ⟨a, c, q ++ (List.replicate m 32 ++ glue r), ha, ?_, fun hj => h ⟨a, c, ha, by rw [e]; rfl, hj⟩⟩
      show v ++ _ = _
      rw [e]
      rfl
/-- a word of a row -/
def Tok (w : Str) : Prop := IsTok (tl w)
theorem words_glue {z : Str} {k : Nat} {l : List (List Nat × Nat)} (h : GlueOk l) (e : tl z = List.replicate k 32 ++ glue l) : wordsW z = some (l.map fun p => mkS p.1) := by
  rw [words_lex, e, lexL_spaces, lex_glue h]
  show some ((l.map (·.1)).map mkS) = _
  rw [List.map_map]
  rfl
theorem tok_name {x : Str} (h : nameW x = true) : Tok x := tok_let (ne_of_len (name_parts h).1) (name_parts h).2.2.2
theorem tok_num (n : Nat) : Tok (numS n) := by
  unfold Tok
  rw [numS_tl]
  exact tok_dig (TL.numL_ne n) fun c hc => dig_mem (TL.numL_digits n c hc)
theorem tok_sho {z : Str} {c : Nat} (e : tl z = [c]) (h : c ∈ tl SHO) : Tok z := by
  unfold Tok
  rw [e]
  exact tok_one h
theorem no_join_sho {w v : List Nat} {c : Nat} (hc : c ∉ tl LET ∧ c ∉ tl DIG ∧ c ∉ EQS) (h : w.getLast? = some c ∨ v.head? = some c) : ¬ joinsLH w v := by
  rintro ⟨a, b, h1, h2, hj⟩
  rcases h with h | h
  · rw [h] at h1
    have h1 := Option.some.inj h1
    subst h1
    rcases hj with ⟨h, _⟩ | ⟨h, _⟩ | ⟨h, _⟩
    · exact hc.1 h
    · exact hc.2.1 h
    · exact hc.2.2 h
  · rw [h] at h2
    have h2 := Option.some.inj h2
    subst h2
    rcases hj with ⟨_, h⟩ | ⟨_, h⟩ | ⟨_, h⟩
    · exact hc.1 h
    · exact hc.2.1 h
    · exact hc.2.2 h
/-! the written form's words -/
def plusG (p : Int) : List (List Nat × Nat) := if p = 0 then [] else [([if 0 < p then 43 else 45], 1), (TL.numL p.natAbs, 0)]
/-- how many spaces stand behind what is ahead of a plus -/
def gapP (p : Int) : Nat := if p = 0 then 0 else 1
def plainG : Ex → List (List Nat × Nat)
  | .num n => if n < 0 then [([45], 0), (TL.numL (-n).toNat, 0)] else [(TL.numL n.toNat, 0)]
  | .var x p => (tl x, gapP p) :: plusG p
  | .item _ _ _ => []
def goodG : Ex → List (List Nat × Nat)
  | .num n => plainG (.num n)
  | .var x p => plainG (.var x p)
  | .item x i p => (tl x, 0) :: ([91], 0) :: (plainG i ++ ([93], gapP p) :: plusG p)
theorem plus_tl (p : Int) : tl (plusS p) = List.replicate (gapP p) 32 ++ glue (plusG p) := by
  unfold plusS gapP plusG
  by_cases h : p = 0
  · rw [if_pos h, if_pos h, if_pos h]
    rfl
  · rw [if_neg h, if_neg h, if_neg h]
    by_cases h2 : 0 < p
    · rw [if_pos h2, if_pos h2, tl_app, numS_tl, show p.toNat = p.natAbs by omega]
      show [32, 43, 32] ++ _ = [32] ++ ([43] ++ ([32] ++ (TL.numL p.natAbs ++ ([] ++ []))))
      simp
    · rw [if_neg h2, if_neg h2, tl_app, numS_tl, show (-p).toNat = p.natAbs by omega]
      show [32, 45, 32] ++ _ = [32] ++ ([45] ++ ([32] ++ (TL.numL p.natAbs ++ ([] ++ []))))
      simp
theorem glue_app : ∀ a b : List (List Nat × Nat), glue (a ++ b) = glue a ++ glue b
  | [], b => rfl
  | (w, n) :: r, b => by
    show w ++ (List.replicate n 32 ++ glue (r ++ b)) = w ++ (List.replicate n 32 ++ glue r) ++ glue b
    rw [glue_app r b]
    simp
theorem plain_tl {e : Ex} (h : Plain e) : tl (textE e) = glue (plainG e) := by
  cases e with
  | num n =>
    show tl (intS n) = glue (if n < 0 then _ else _)
    rw [intS_tl]
    split
    · show _ = [45] ++ ([] ++ (TL.numL (-n).toNat ++ ([] ++ [])))
      simp
    · show _ = TL.numL n.toNat ++ ([] ++ [])
      simp
  | var x p =>
    show tl (x ++ plusS p) = tl x ++ (List.replicate (gapP p) 32 ++ glue (plusG p))
    rw [tl_app]
    show tl x ++ tl (plusS p) = _
    rw [plus_tl]
  | item x i p => exact h.elim
theorem good_tl {e : Ex} (h : Good e) : tl (textE e) = glue (goodG e) := by
  cases e with
  | num n => exact plain_tl (e := .num n) h
  | var x p => exact plain_tl (e := .var x p) h
  | item x i p =>
    show tl (x ++ ("[" : Str) ++ textE i ++ ("]" : Str) ++ plusS p) = tl x ++ ([] ++ ([91] ++ ([] ++ glue (plainG i ++ ([93], gapP p) :: plusG p))))
    rw [tl_app, tl_app, tl_app, tl_app, glue_app]
    show tl x ++ [91] ++ tl (textE i) ++ [93] ++ tl (plusS p) = tl x ++ ([] ++ ([91] ++ ([] ++ (glue (plainG i) ++ ([93] ++ (List.replicate (gapP p) 32 ++ glue (plusG p)))))))
    rw [plain_tl h.2.1, plus_tl]
    simp
theorem tokL (n : Nat) : IsTok (TL.numL n) := by
  have := tok_num n
  unfold Tok at this
  rwa [numS_tl] at this
theorem plusG_ok (p : Int) : GlueOk (plusG p) := by
  unfold plusG
  split
  · trivial
  · refine ⟨?_, .inl (by decide), tokL _⟩
    split
    · exact tok_one (by decide +kernel)
    · exact tok_one (by decide +kernel)
theorem glue_cons {w : List Nat} {n : Nat} {l : List (List Nat × Nat)} (h : IsTok w) (k : ∀ v m r, l = (v, m) :: r → 0 < n ∨ ¬ joinsLH w v) (hl : GlueOk l) : GlueOk ((w, n) :: l) := by
  cases l with
  | nil => exact h
  | cons x r =>
    obtain ⟨v, m⟩ := x
    exact ⟨h, k v m r rfl, hl⟩
theorem plus_behind {w : List Nat} {p : Int} (h : IsTok w) : GlueOk ((w, gapP p) :: plusG p) := by
  refine glue_cons h (fun v m r e => .inl ?_) (plusG_ok p)
  unfold plusG at e
  unfold gapP
  split at e
  · cases e
  · rename_i hp
    rw [if_neg hp]
    decide
theorem plain_glue {e : Ex} (h : Plain e) : GlueOk (plainG e) := by
  cases e with
  | num n =>
    show GlueOk (if n < 0 then _ else _)
    split
    · exact ⟨tok_one (by decide +kernel), .inr (no_join_sho (c := 45) (by decide +kernel) (.inl rfl)), tokL _⟩
    · exact tokL _
  | var x p => exact plus_behind (tok_name h.1)
  | item x i p => exact h.elim
theorem glue_join : ∀ {a : List (List Nat × Nat)} {w : List Nat} {n : Nat} {b : List (List Nat × Nat)}, GlueOk a → (∀ v, ¬ joinsLH v w) → GlueOk ((w, n) :: b) → GlueOk (a ++ (w, n) :: b)
  | [], _, _, _, _, _, h => h
  | [(v, m)], w, n, b, h1, h2, h3 => ⟨h1, .inr (h2 v), h3⟩
  | (v, m) :: (u, k) :: r, w, n, b, h1, h2, h3 => ⟨h1.1, h1.2.1, glue_join (a := (u, k) :: r) h1.2.2 h2 h3⟩
theorem good_glue {e : Ex} (h : Good e) : GlueOk (goodG e) := by
  cases e with
  | num n => exact plain_glue (e := .num n) h
  | var x p => exact plain_glue (e := .var x p) h
  | item x i p =>
    have h91 : ∀ v : List Nat, ¬ joinsLH [91] v := fun v => no_join_sho (c := 91) (by decide +kernel) (.inl rfl)
    refine ⟨tok_name h.1, .inr (no_join_sho (c := 91) (by decide +kernel) (.inr rfl)), ?_⟩
    refine glue_cons (tok_one (by decide +kernel)) (fun v m r _ => .inr (h91 v)) ?_
    exact glue_join (plain_glue h.2.1) (fun v => no_join_sho (c := 93) (by decide +kernel) (.inr rfl)) (plus_behind (tok_one (by decide +kernel)))
theorem mkS_num (n : Nat) : mkS (TL.numL n) = numS n := by rw [← numS_tl, tl_mkS]
theorem plus_words (p : Int) : (plusG p).map (fun q => mkS q.1) = plusW p := by
  unfold plusG plusW
  split
  · rfl
  · split
    · show [mkS [43], mkS (TL.numL _)] = _
      rw [mkS_num]
      rfl
    · show [mkS [45], mkS (TL.numL _)] = _
      rw [mkS_num]
      rfl
theorem plain_words {e : Ex} (h : Plain e) : (plainG e).map (fun q => mkS q.1) = wordsE e := by
  cases e with
  | num n =>
    show (if n < 0 then _ else _ : List (List Nat × Nat)).map _ = if n < 0 then _ else _
    split
    · show [mkS [45], mkS (TL.numL _)] = _
      rw [mkS_num]
      rfl
    · show [mkS (TL.numL _)] = _
      rw [mkS_num]
  | var x p =>
    show mkS (tl x) :: (plusG p).map _ = _
    rw [tl_mkS, plus_words]
    rfl
  | item x i p => exact h.elim
theorem good_words {e : Ex} (h : Good e) : wordsW (textE e) = some (wordsE e) := by
  rw [words_glue (k := 0) (good_glue h) (by rw [good_tl h]; rfl)]
  congr 1
  cases e with
  | num n => exact plain_words (e := .num n) h
  | var x p => exact plain_words (e := .var x p) h
  | item x i p =>
    show mkS (tl x) :: mkS [91] :: (plainG i ++ ([93], gapP p) :: plusG p).map _ = _
    rw [tl_mkS, List.map_append, plain_words h.2.1, List.map_cons, plus_words]
    show _ = [x, ("[" : Str)] ++ wordsE i ++ [("]" : Str)] ++ plusW p
    simp
    exact ⟨rfl, rfl⟩
end W4
namespace WD
open PySem PySem.Spec PyProof.Rows L2 Wy
theorem uu {a c : Nat} (h : a + 64 < c) : a + 1 < c := by omega
/-! ### dicts of texts -/
def rLnD : List V → Hp → VK → Prop := fun xs H Q => ∃ a kvs, xs = [.ref a] ∧ H a = some (.dK kvs) ∧ Q (.int (kvs.length : Nat)) H
theorem call_lenD {X : Cx} : CallR X (.builtin "len") rLnD := by
  intro pins s σ H xs us Q I r h
  obtain ⟨p, kvs, rfl, hk, q⟩ := h
  obtain ⟨u, eu, rx⟩ := vals1 r
  subst eu
  obtain rfl : u = Value.ref p := rx
  exact d_len I (.inl hk) fun t s' I' => ⟨.int (kvs.length : Nat), H, I', ⟨t, rfl⟩, q⟩
section
variable {K : PySem.W.Frag} {σ : L2.St} {H : Hp} {Q : VK} {td ty tv : TE} {D : Ends}
def KD (x y : V) (H : Hp) (Q : VK) : Prop := ∃ a v, x = .ref a ∧ DGet H a y (some v) ∧ Q v H
def KP (v x y : V) (σ : L2.St) (H : Hp) (N : L2.St → Hp → Prop) : Prop := ∃ a H4, x = .ref a ∧ DPut H a y v H4 ∧ N σ H4
theorem e_dnew (h : ∀ p H2, H p = none → Same H H2 → H2 p = some (.dK []) → Q (.ref p) H2) : tDNewK σ H Q := new_same h
theorem e_dget (h : td σ H fun x H1 => ty σ H1 fun y H2 => KD x y H2 Q) : tDGet td ty σ H Q := h
theorem k_d {a : Addr} {kvs : List (Key × V)} {n : Str} {v : V} (e : H a = some (.dK kvs)) (g : valV kvs (.inr n) = some v) (h : Q v H) : KD (.ref a) (.str n) H Q :=
  ⟨a, v, rfl, g ▸ DGet.k (k := .inr n) e, h⟩
theorem s_dput (h : tv σ H fun v H1 => td σ H1 fun x H2 => ty σ H2 fun y H3 => KP v x y σ H3 D.nx) : sDPut td ty tv D σ H := h
theorem k_p {a : Addr} {kvs : List (Key × V)} {n : Str} {v : V} {N : L2.St → Hp → Prop} (e : H a = some (.dK kvs)) (hl : kvs.length < sizeLine) (h : ∀ H2, Chg a H H2 → H2 a = some (.dK (putK kvs (.inr n) v)) → N σ H2) :
    KP v (.ref a) (.str n) σ H N := ⟨a, _, rfl, DPut.k (k := .inr n) e hl, h _ chg_upd upd_same⟩
theorem b_lenD {a : Addr} {kvs : List (Key × V)} (e : H a = some (.dK kvs)) (h : Q (.int (kvs.length : Nat)) H) : rLnD [.ref a] H Q := ⟨a, kvs, rfl, e, h⟩
theorem b_lstD {a : Addr} {kvs : List (Key × V)} (e : H a = some (.dK kvs)) (h : ∀ p H2, H p = none → Same H H2 → H2 p = some (.lst (kvs.map fun kv => kV kv.1)) → Q (.ref p) H2) : rListD [.ref a] H Q := ⟨a, kvs, rfl, e, new_same h⟩
def rTup (K : PySem.W.Frag) : List V → Hp → VK → Prop := fun xs H Q => ∃ p ys, xs = [.ref p] ∧ ((SqL K H p ys ∧ ∀ l, H l = none → Q (.ref l) (upd H l (.tup ys))) ∨ (SqT K H p ys ∧ Q (.ref p) H))
theorem call_tup2 {X : Cx} : CallR X (.type "tuple") (rTup X.K) := call_tuple_of
theorem b_tup {a : Addr} {xs : List V} (hs : SqL K H a xs) (h : ∀ p H2, H p = none → Same H H2 → H2 p = some (.tup xs) → Q (.ref p) H2) : rTup K [.ref a] H Q := ⟨a, xs, rfl, .inl ⟨hs, new_same h⟩⟩
theorem m_idx {a : Addr} {ys : List V} {y : V} {j : Nat} {z : V} (hs : SqL K H a ys) (f1 : flatV y = true) (f2 : ys.all flatV = true) (g : ys[j]? = some z) (e : eqV z y = true)
    (no : ∀ (m : Nat) (z' : V), m < j → ys[m]? = some z' → eqV z' y = false) (h : Q (.int (j : Nat)) H) : rIndex K (.ref a) [y] H Q := ⟨a, ys, y, j, z, rfl, rfl, hs, f1, f2, g, e, no, h⟩
end
/-- the names with their values, as far as there are values -/
def kv (ns : List Str) (vs : List V) : List (Key × V) := (ns.zip vs).map fun p => (.inr p.1, p.2)
theorem kv_len {ns : List Str} {vs : List V} (h : vs.length ≤ ns.length) : (kv ns vs).length = vs.length := by
  unfold kv
  rw [List.length_map, List.length_zip]
  omega
theorem kv_get : ∀ {ns : List Str} {vs : List V} {j : Nat} {n : Str} {v : V}, ns.Nodup → ns[j]? = some n → vs[j]? = some v → valV (kv ns vs) (.inr n) = some v
  | [], _, _, _, _, _, h, _ => by cases h
  | _ :: _, [], _, _, _, _, _, h => by cases h
  | m :: ns, u :: vs, 0, n, v, _, h1, h2 => by
    cases h1
    cases h2
    exact valV_pos (p := (Sum.inr m, u)) rfl
  | m :: ns, u :: vs, j + 1, n, v, hd, h1, h2 => by
    have h1 : ns[j]? = some n := h1
    have h2 : vs[j]? = some v := h2
    have hd := List.nodup_cons.mp hd
    have ne : ¬ (Sum.inr m : Key) = Sum.inr n := fun e => hd.1 (by
      have e2 : m = n := Sum.inr.inj e
      rw [e2]
      exact List.mem_of_getElem? h1)
    exact (valV_neg (p := (Sum.inr m, u)) ne).trans (kv_get hd.2 h1 h2)
theorem zip_fst : ∀ (ns : List Str) (vs : List V), (ns.zip vs).map Prod.fst = ns.take vs.length
  | [], _ => by simp
  | _ :: _, [] => rfl
  | n :: ns, _ :: vs => congrArg (n :: ·) (zip_fst ns vs)
theorem zip_cut : ∀ (ns : List Str) (vs : List V), ns.zip vs = (ns.take vs.length).zip vs
  | [], _ => by simp
  | _ :: _, [] => rfl
  | n :: ns, v :: vs => congrArg ((n, v) :: ·) (zip_cut ns vs)
theorem kv_any {ns : List Str} {vs : List V} {n : Str} : ((kv ns vs).any fun p => decide (p.1 = (.inr n : Key))) = true ↔ n ∈ (ns.take vs.length) := by
  unfold kv
  rw [List.any_map, List.any_eq_true]
  constructor
  · rintro ⟨⟨a, b⟩, hm, h⟩
    have h : (Sum.inr a : Key) = Sum.inr n := of_decide_eq_true h
    have e : a = n := Sum.inr.inj h
    subst e
    have : a ∈ (ns.zip vs).map Prod.fst := List.mem_map.mpr ⟨_, hm, rfl⟩
    rw [zip_fst] at this
    exact this
  · intro h
    have : n ∈ (ns.zip vs).map Prod.fst := by
      rw [zip_fst]
      exact h
    obtain ⟨⟨a, b⟩, hm, e⟩ := List.mem_map.mp this
    exact ⟨(a, b), hm, decide_eq_true (by rw [← e])⟩
theorem kv_new {ns : List Str} {vs : List V} {n : Str} {v : V} (hd : ns.Nodup) (h : ns[vs.length]? = some n) : putK (kv ns vs) (.inr n) v = kv ns (vs ++ [v]) := by
  have no : n ∉ ns.take vs.length := by
    intro hm
    obtain ⟨i, hi, e⟩ := List.getElem_of_mem hm
    obtain ⟨hl, e2⟩ := List.getElem?_eq_some_iff.mp h
    rw [List.length_take] at hi
    rw [List.getElem_take] at e
    have := (List.getElem_inj hd).mp (e.trans e2.symm)
    omega
  unfold putK
  rw [if_neg (fun e => no (kv_any.mp e))]
  unfold kv
  obtain ⟨hl, e2⟩ := List.getElem?_eq_some_iff.mp h
  have e3 : ns = ns.take vs.length ++ n :: ns.drop (vs.length + 1) := by
    rw [← e2, List.getElem_cons_drop, List.take_append_drop]
  have e4 : ns.zip vs = (ns.take vs.length).zip vs := zip_cut ns vs
  have l1 : (ns.take vs.length).length = vs.length := by rw [List.length_take]; omega
  have e5 : ns.zip (vs ++ [v]) = (ns.take vs.length).zip vs ++ [(n, v)] := by
    conv => lhs; rw [e3]
    rw [List.zip_append l1]
    simp
  rw [e4, e5, List.map_append]
  rfl
theorem kv_set : ∀ {ns : List Str} {vs : List V} {j : Nat} {n : Str} {v : V}, ns.Nodup → ns[j]? = some n → j < vs.length → (kv ns vs).map (fun p => if p.1 = (.inr n : Key) then (p.1, v) else p) = kv ns (vs.set j v)
  | [], _, _, _, _, _, h, _ => by cases h
  | _ :: _, [], _, _, _, _, _, h => absurd h (Nat.not_lt_zero _)
  | m :: ns, u :: vs, 0, n, v, hd, h1, h2 => by
    cases h1
    have hd := List.nodup_cons.mp hd
    show (if (Sum.inr m : Key) = Sum.inr m then _ else _) :: _ = (_ :: _ : List (Key × V))
    rw [if_pos rfl]
    refine congrArg (_ :: ·) ?_
    refine (List.map_congr_left fun p hp => ?_).trans (List.map_id _)
    obtain ⟨⟨a, b⟩, hm, e⟩ := List.mem_map.mp hp
    rw [if_neg ?_]
    · rfl
    · rw [← e]
      intro e2
      exact hd.1 (Sum.inr.inj e2 ▸ (List.of_mem_zip hm).1)
  | m :: ns, u :: vs, j + 1, n, v, hd, h1, h2 => by
    have h1 : ns[j]? = some n := h1
    have hd := List.nodup_cons.mp hd
    have ne : ¬ (Sum.inr m : Key) = Sum.inr n := fun e => hd.1 (by
      have e2 : m = n := Sum.inr.inj e
      rw [e2]
      exact List.mem_of_getElem? h1)
    show (if (Sum.inr m : Key) = Sum.inr n then _ else _) :: _ = (_ :: _ : List (Key × V))
    rw [if_neg ne]
    exact congrArg (_ :: ·) (kv_set hd.2 h1 (Nat.lt_of_succ_lt_succ h2))
theorem kv_put {ns : List Str} {vs : List V} {j : Nat} {n : Str} {v : V} (hd : ns.Nodup) (h : ns[j]? = some n) (hj : j < vs.length) : putK (kv ns vs) (.inr n) v = kv ns (vs.set j v) := by
  obtain ⟨hl, e2⟩ := List.getElem?_eq_some_iff.mp h
  have hm : n ∈ ns.take vs.length := by
    rw [← e2]
    exact List.mem_take_iff_getElem.mpr ⟨j, by omega, rfl⟩
  unfold putK
  rw [if_pos (kv_any.mpr hm)]
  exact kv_set hd h hj
theorem kv_keys {ns : List Str} {vs : List V} (h : vs.length = ns.length) : (kv ns vs).map (fun p => kV p.1) = ns.map V.str := by
  unfold kv
  rw [List.map_map]
  have : ((fun p : Key × V => kV p.1) ∘ fun p : Str × V => ((.inr p.1 : Key), p.2)) = V.str ∘ Prod.fst := rfl
  rw [this, ← List.map_map, List.map_fst_zip (by omega)]
/-! ### the questions and their answers -/
inductive X9 where
  | num (n : Int)
  | var (k : Nat) (p : Int)
  | item (j : Nat) (i : X9) (p : Int)
abbrev nm (ns : List Str) (k : Nat) : Str := ns.getD k ""
def X9.d (ns : List Str) : X9 → PyData
  | .num n => .tuple [.str "num", .int n]
  | .var k p => .tuple [.str "var", .str (nm ns k), .int p]
  | .item j i p => .tuple [.str "item", .str (nm ns (4 + j)), i.d ns, .int p]
def X9.plain : X9 → Prop
  | .num _ => True
  | .var k _ => k < 4
  | .item _ _ _ => False
def X9.good : X9 → Prop
  | .num _ => True
  | .var k _ => k < 4
  | .item j i _ => j < 2 ∧ i.plain
theorem X9.plain.good {e : X9} (h : e.plain) : e.good := by
  cases e with
  | num _ => exact True.intro
  | var _ _ => exact h
  | item _ _ _ => exact h.elim
def X9.dep : X9 → Nat
  | .item _ _ _ => 1
  | _ => 0
theorem X9.plain.dep {e : X9} (h : e.plain) : e.dep = 0 := by
  cases e with
  | num _ => rfl
  | var _ _ => rfl
  | item _ _ _ => exact h.elim
theorem X9.dep_le (e : X9) : e.dep < 2 := by
  cases e <;> simp [X9.dep]
def X9.ev (is : List Int) (ls : List (List Int)) : X9 → Option Int
  | .num n => some n
  | .var k p => some (is.getD k 0 + p)
  | .item j i p => match i.ev is ls with
    | none => none
    | some a => if 0 ≤ a ∧ a < (ls.getD j []).length then some ((ls.getD j []).getD a.toNat 0 + p) else none
def oI : Option Int → V
  | none => .non
  | some i => .int i
def oB : Option Bool → V
  | none => .non
  | some b => .bl b
theorem X9.plain.ev {e : X9} (h : e.plain) (is : List Int) (ls : List (List Int)) : ∃ i, e.ev is ls = some i := by
  cases e with
  | num n => exact ⟨n, rfl⟩
  | var k p => exact ⟨_, rfl⟩
  | item _ _ _ => exact h.elim
abbrev SG : List Str := ["<", "<=", ">", ">=", "==", "!="]
def cmpB : Nat → Int → Int → Bool
  | 0, a, b => decide (a < b)
  | 1, a, b => decide (a ≤ b)
  | 2, a, b => decide (a > b)
  | 3, a, b => decide (a ≥ b)
  | 4, a, b => decide (a = b)
  | _, a, b => !decide (a = b)
inductive Cn where
  | cmp (k : Nat) (l r : X9)
  | no (c : Cn)
  | jn (o : Bool) (cs : List Cn)
abbrev jw (o : Bool) : Str := if o then "or" else "and"
mutual
def Cn.d (ns : List Str) : Cn → PyData
  | .cmp k l r => .tuple [.str "cmp", .str (SG.getD k ""), l.d ns, r.d ns]
  | .no c => .tuple [.str "not", c.d ns]
  | .jn o cs => .tuple [.str (jw o), .tuple (Cn.ds ns cs)]
def Cn.ds (ns : List Str) : List Cn → List PyData
  | [] => []
  | c :: cs => c.d ns :: Cn.ds ns cs
end
mutual
def Cn.ok : Nat → Cn → Prop
  | _, .cmp k l r => k < 6 ∧ l.good ∧ r.good
  | 0, .no _ => False
  | n + 1, .no c => c.ok n
  | 0, .jn _ _ => False
  | n + 1, .jn _ cs => Cn.oks n cs
def Cn.oks : Nat → List Cn → Prop
  | _, [] => True
  | n, c :: cs => c.ok n ∧ Cn.oks n cs
end
def cmpO (k : Nat) : Option Int → Option Int → Option Bool
  | some a, some b => some (cmpB k a b)
  | _, _ => none
mutual
def Cn.ev (is : List Int) (ls : List (List Int)) : Cn → Option Bool
  | .cmp k l r => cmpO k (l.ev is ls) (r.ev is ls)
  | .no c => (c.ev is ls).map fun b => !b
  | .jn o cs => Cn.evs is ls o cs
def Cn.evs (is : List Int) (ls : List (List Int)) (o : Bool) : List Cn → Option Bool
  | [] => some (!o)
  | c :: cs => match c.ev is ls with
    | none => none
    | some b => if b = o then some b else Cn.evs is ls o cs
end
theorem Cn.ds_get {ns : List Str} : ∀ {cs : List Cn} {i : Nat} {c : Cn}, cs[i]? = some c → (Cn.ds ns cs)[i]? = some (c.d ns)
  | [], _, _, h => by cases h
  | c :: cs, 0, _, h => by
    cases h
    rfl
  | c :: cs, i + 1, _, h => by
    have h : cs[i]? = some _ := h
    exact Cn.ds_get (cs := cs) (i := i) h
theorem Cn.ds_len {ns : List Str} : ∀ {cs : List Cn}, (Cn.ds ns cs).length = cs.length
  | [] => rfl
  | c :: cs => congrArg (· + 1) Cn.ds_len
theorem Cn.ds_snoc {ns : List Str} {c : Cn} : ∀ {cs : List Cn}, Cn.ds ns (cs ++ [c]) = Cn.ds ns cs ++ [c.d ns]
  | [] => rfl
  | _ :: _ => congrArg (_ :: ·) Cn.ds_snoc
theorem Cn.oks_get {n : Nat} : ∀ {cs : List Cn} {i : Nat} {c : Cn}, Cn.oks n cs → cs[i]? = some c → c.ok n
  | [], _, _, _, h => by cases h
  | c :: cs, 0, _, g, h => by
    cases h
    exact g.1
  | c :: cs, i + 1, _, g, h => by
    have h : cs[i]? = some _ := h
    exact Cn.oks_get g.2 h
theorem Cn.oks_snoc {n : Nat} {c : Cn} : ∀ {cs : List Cn}, Cn.oks n cs → c.ok n → Cn.oks n (cs ++ [c])
  | [], _, h => ⟨h, True.intro⟩
  | _ :: _, g, h => ⟨g.1, Cn.oks_snoc g.2 h⟩
theorem Cn.evs_drop {is : List Int} {ls : List (List Int)} {o : Bool} {cs : List Cn} {i : Nat} {c : Cn} (h : cs[i]? = some c) :
    Cn.evs is ls o (cs.drop i) = match c.ev is ls with | none => none | some b => if b = o then some b else Cn.evs is ls o (cs.drop (i + 1)) := by
  obtain ⟨hl, e⟩ := List.getElem?_eq_some_iff.mp h
  rw [List.drop_eq_getElem_cons hl, e]
  rfl
/-! ### the parts of the data -/
theorem tp4 {H : Hp} {v : V} {d1 d2 d3 d4 : PyData} (h : Tp H v (.tuple [d1, d2, d3, d4])) : ∃ a v1 v2 v3 v4, v = .ref a ∧ H a = some (.tup [v1, v2, v3, v4]) ∧ Tp H v1 d1 ∧ Tp H v2 d2 ∧ Tp H v3 d3 ∧ Tp H v4 d4 := by
  cases h with
  | tup e r =>
    cases r with | cons h1 r => cases r with | cons h2 r => cases r with | cons h3 r => cases r with | cons h4 r =>
      cases r
      exact ⟨_, _, _, _, _, rfl, e, h1, h2, h3, h4⟩
theorem tp3 {H : Hp} {v : V} {d1 d2 d3 : PyData} (h : Tp H v (.tuple [d1, d2, d3])) : ∃ a v1 v2 v3, v = .ref a ∧ H a = some (.tup [v1, v2, v3]) ∧ Tp H v1 d1 ∧ Tp H v2 d2 ∧ Tp H v3 d3 := by
  cases h with
  | tup e r =>
    cases r with | cons h1 r => cases r with | cons h2 r => cases r with | cons h3 r =>
      cases r
      exact ⟨_, _, _, _, rfl, e, h1, h2, h3⟩
theorem tp2 {H : Hp} {v : V} {d1 d2 : PyData} (h : Tp H v (.tuple [d1, d2])) : ∃ a v1 v2, v = .ref a ∧ H a = some (.tup [v1, v2]) ∧ Tp H v1 d1 ∧ Tp H v2 d2 := by
  cases h with
  | tup e r =>
    cases r with | cons h1 r => cases r with | cons h2 r =>
      cases r
      exact ⟨_, _, _, rfl, e, h1, h2⟩
theorem tpL {H : Hp} {v : V} {ds : List PyData} (h : Tp H v (.tuple ds)) : ∃ a vs, v = .ref a ∧ H a = some (.tup vs) ∧ TpAll H vs ds := by
  cases h with
  | tup e r => exact ⟨_, _, rfl, e, r⟩
theorem tp_str {H : Hp} {v : V} {x : Str} (h : Tp H v (.str x)) : v = .str x := by
  cases h
  rfl
theorem tp_int {H : Hp} {v : V} {x : Int} (h : Tp H v (.int x)) : v = .int x := by
  cases h
  rfl
theorem tpSnoc {H : Hp} {v : V} {d : PyData} : ∀ {vs : List V} {ds : List PyData}, TpAll H vs ds → Tp H v d → TpAll H (vs ++ [v]) (ds ++ [d])
  | _, _, .nil, h => .cons h .nil
  | _, _, .cons h1 h2, h => .cons h1 (tpSnoc h2 h)
/-! ### the variables -/
def CellAt (H : Hp) (is : List Int) (ls : List (List Int)) (j : Nat) (v : V) : Prop :=
  (∃ x, is[j]? = some x ∧ v = .int x) ∨ ∃ a xs, 4 ≤ j ∧ ls[j - 4]? = some xs ∧ v = .ref a ∧ H a = some (.lst (xs.map V.int))
theorem CellAt.same {H H' : Hp} {is : List Int} {ls : List (List Int)} {j : Nat} {v : V} (s : Same H H') (c : CellAt H is ls j v) : CellAt H' is ls j v := by
  rcases c with c | ⟨a, xs, h1, h2, h3, h4⟩
  · exact .inl c
  · exact .inr ⟨a, xs, h1, h2, h3, s _ _ h4⟩
def EnvAt (H : Hp) (p : Addr) (ns : List Str) (is : List Int) (ls : List (List Int)) : Prop :=
  is.length = 4 ∧ ls.length = 2 ∧ ns.length = 6 ∧ ns.Nodup ∧ ∃ vs : List V, vs.length = 6 ∧ H p = some (.dK (kv ns vs)) ∧ ∀ j v, vs[j]? = some v → CellAt H is ls j v
theorem EnvAt.same {H H' : Hp} {p : Addr} {ns : List Str} {is : List Int} {ls : List (List Int)} (s : Same H H') (e : EnvAt H p ns is ls) : EnvAt H' p ns is ls := by
  obtain ⟨h1, h2, h3, h4, vs, h5, h6, h7⟩ := e
  exact ⟨h1, h2, h3, h4, vs, h5, s _ _ h6, fun j v g => (h7 j v g).same s⟩
theorem nm_at {ns : List Str} {k : Nat} (h : k < ns.length) : ns[k]? = some (nm ns k) := by
  unfold nm
  rw [List.getD_eq_getElem?_getD, List.getElem?_eq_getElem h]
  rfl
/-- a number out of the variables -/
theorem EnvAt.int {H : Hp} {p : Addr} {ns : List Str} {is : List Int} {ls : List (List Int)} (e : EnvAt H p ns is ls) {k : Nat} (hk : k < 4) : ∃ kvs, H p = some (.dK kvs) ∧ valV kvs (.inr (nm ns k)) = some (.int (is.getD k 0)) := by
  obtain ⟨h1, h2, h3, h4, vs, h5, h6, h7⟩ := e
  have g : vs[k]? = some vs[k] := List.getElem?_eq_getElem (by omega)
  refine ⟨_, h6, ?_⟩
  have e := kv_get h4 (nm_at (by omega)) g
  rw [e]
  rcases h7 k _ g with ⟨x, c1, c2⟩ | ⟨a, xs, c1, _⟩
  · rw [c2, List.getD_eq_getElem?_getD, c1]
    rfl
  · omega
theorem EnvAt.lst {H : Hp} {p : Addr} {ns : List Str} {is : List Int} {ls : List (List Int)} (e : EnvAt H p ns is ls) {j : Nat} (hj : j < 2) :
    ∃ kvs a, H p = some (.dK kvs) ∧ valV kvs (.inr (nm ns (4 + j))) = some (.ref a) ∧ H a = some (.lst ((ls.getD j []).map V.int)) := by
  obtain ⟨h1, h2, h3, h4, vs, h5, h6, h7⟩ := e
  have g : vs[4 + j]? = some vs[4 + j] := List.getElem?_eq_getElem (by omega)
  have e := kv_get h4 (nm_at (by omega)) g
  rcases h7 _ _ g with ⟨x, c1, c2⟩ | ⟨a, xs, c1, c2, c3, c4⟩
  · have := (List.getElem?_eq_some_iff.mp c1).1
    omega
  · refine ⟨_, a, h6, by rw [e, c3], ?_⟩
    have e2 : ls.getD j [] = xs := by
      rw [List.getD_eq_getElem?_getD]
      rw [show 4 + j - 4 = j by omega] at c2
      rw [c2]
      rfl
    rw [e2]
    exact c4
/-! ### the names -/
abbrev PADS : List Str := ["", "u", "zzzzzzzzzzz", "uz"]
def let9 (k : Nat) : Str := ⟨#[("abcdxy" : Str).cps.toList.getD k 0]⟩
def namesOf (k : Nat) : List Str := (PADS.map fun p => let9 k ++ p) ++ PADS.map fun p => p ++ let9 k
theorem names_apart : ∀ i, i < 6 → ∀ j, j < 6 → i ≠ j → ∀ x ∈ namesOf i, ∀ y ∈ namesOf j, x ≠ y := by decide +kernel
def NamesOk (ns : List Str) : Prop := ∀ i n, ns[i]? = some n → n ∈ namesOf i
theorem names_nodup {ns : List Str} (h : NamesOk ns) (hl : ns.length ≤ 6) : ns.Nodup := by
  rw [List.nodup_iff_pairwise_ne, List.pairwise_iff_getElem]
  intro i j hi hj lt
  exact names_apart i (by omega) j (by omega) (by omega) _ (h i _ (List.getElem?_eq_getElem hi)) _ (h j _ (List.getElem?_eq_getElem hj))
end WD
/-! WN: more rules and steps. -/
namespace WN
open PySem PySem.Spec PyProof.Rows L2 Wy
theorem sm {H H' : Hp} {a : Addr} {o : HO} (s : Same H H') (h : H a = some o) : H' a = some o := s _ _ h
theorem cm {l : Addr} {H H' : Hp} {a : Addr} {o : HO} (c : Chg l H H') (n : a ≠ l) (h : H a = some o) : H' a = some o := c.at h n
theorem ne_new {H : Hp} {a l : Addr} {o : HO} (n : H l = none) (h : H a = some o) : a ≠ l := ne_of_none h n
theorem iteTT {b : Bool} {A B : Prop} (e : b = true) (h : A) : if b = true then A else B := by
  rw [if_pos e]
  exact h
theorem iteFF {b : Bool} {A B : Prop} (e : b = false) (h : B) : if b = true then A else B := by
  rw [if_neg (by rw [e]; exact Bool.false_ne_true)]
  exact h
theorem iteB {b : Bool} {A B : Prop} (h1 : b = true → A) (h2 : b = false → B) : if b = true then A else B := by
  cases b with
  | true => exact iteTT rfl (h1 rfl)
  | false => exact iteFF rfl (h2 rfl)
/-- a decided question -/
theorem iteD {p : Prop} [Decidable p] {A B : Prop} (h1 : p → A) (h2 : ¬ p → B) : if decide p = true then A else B := ite2 (fun e => h1 (of_decide_eq_true e)) fun e => h2 fun x => e (decide_eq_true x)
theorem iteND {p : Prop} [Decidable p] {A B : Prop} (h1 : ¬ p → A) (h2 : p → B) : if (!decide p) = true then A else B := by
  by_cases h : p
  · exact iteFF (by rw [decide_eq_true h]; rfl) (h2 h)
  · exact iteTT (by rw [decide_eq_false h]; rfl) (h1 h)
theorem nRN (a : Addr) : decide (V.ref a = V.non) = false := decide_eq_false (fun e => nomatch e)
theorem nIN (a : Int) : decide (V.int a = V.non) = false := decide_eq_false (fun e => nomatch e)
theorem nSN (a : Str) : decide (V.str a = V.non) = false := decide_eq_false (fun e => nomatch e)
theorem nBN (a : Bool) : decide (V.bl a = V.non) = false := decide_eq_false (fun e => nomatch e)
theorem nNRN (a : Addr) : (!decide (V.ref a = V.non)) = true := by rw [nRN]; rfl
theorem nNIN (a : Int) : (!decide (V.int a = V.non)) = true := by rw [nIN]; rfl
theorem nNSN (a : Str) : (!decide (V.str a = V.non)) = true := by rw [nSN]; rfl
theorem nNBN (a : Bool) : (!decide (V.bl a = V.non)) = true := by rw [nBN]; rfl
theorem dI (a b : Int) : decide (V.int a = V.int b) = decide (a = b) := by
  by_cases h : a = b
  · subst h
    rw [decide_eq_true rfl, decide_eq_true rfl]
  · rw [decide_eq_false h, decide_eq_false (fun e => h (V.int.inj e))]
theorem iteI {i j : Int} {A B : Prop} (h1 : i = j → A) (h2 : ¬ i = j → B) : if decide (V.int i = V.int j) = true then A else B := by
  rw [dI]
  exact iteD h1 h2
theorem iteNI {i j : Int} {A B : Prop} (h1 : ¬ i = j → A) (h2 : i = j → B) : if (!decide (V.int i = V.int j)) = true then A else B := by
  rw [dI]
  exact iteND h1 h2
theorem free_of {H H' : Hp} {a : Addr} (n : H' a = none) (s : Same H H') : H a = none := s.free n
theorem dB (a b : Bool) : decide (V.bl a = V.bl b) = decide (a = b) := by cases a <;> cases b <;> rfl
section
variable {X : Cx}
def rAll2 (K : PySem.W.Frag) : List V → Hp → VK → Prop := rAll K
theorem call_all2 (hc : X.calm = true) : CallR X (.builtin "all") (rAll2 X.K) := cr_all hc
def rSum2 (K : PySem.W.Frag) : List V → Hp → VK → Prop := rSum K
theorem call_sum2 (hc : X.calm = true) : CallR X (.builtin "sum") (rSum2 X.K) := cr_sum hc
def rMx2 (_ : PySem.W.Frag) : List V → Hp → VK → Prop := fun xs H Q => ∃ i j, xs = [.int i, .int j] ∧ Q (.int (if j > i then j else i)) H
theorem call_mx2 (hc : X.calm = true) : CallR X (.builtin "max") (rMx2 X.K) := call_max2 hc
def rMn2 (_ : PySem.W.Frag) : List V → Hp → VK → Prop := fun xs H Q => ∃ i j, xs = [.int i, .int j] ∧ Q (.int (if j < i then j else i)) H
theorem call_mn2 (hc : X.calm = true) : CallR X (.builtin "min") (rMn2 X.K) := call_min2 hc
def rIsi2 (K : PySem.W.Frag) : List V → Hp → VK → Prop := fun xs H Q => rIsi K xs H Q ∨ rIsiT K xs H Q
theorem call_isi2 : CallR X (.builtin "isinstance") (rIsi2 X.K) := Wy.CallR.or call_isi call_isiT
/-- a call of a built-in that wants calm -/
theorem pe_callC {id : String} {x : Str} {e : Expr} {es : List Expr} {p pos : Pos} {t : TA} {r : PySem.W.Frag → List V → Hp → VK → Prop} (hc : ∀ X : Cx, X.calm = true → CallR X (.builtin id) (r X.K)) (hg : Gl X x) (hm : X.mg x = none) (hv : bootBuiltins x = some (.builtin id)) (ha : PA X (e :: es) t) (hcalm : X.calm = true := by rfl) (hn : x ≠ "__name__" := by decide) (hdb : (x == ("__debug__" : Str)) = false := by decide)
    (he : starEach (e :: es) X.env = (false, eval e X.env) :: starEach es X.env := by rfl) (hpl : (backTo pos (starEach es X.env)).any (·.1) = false := by rfl) : PE X (.Call (.Name x p) (e :: es) [] pos) (tCB (r X.K) t) :=
  pe_callB (hc X hcalm) hg hm hv ha hn hdb he hpl
theorem cc_all (X : Cx) (h : X.calm = true) : CallR X (.builtin "all") (rAll2 X.K) := call_all2 h
theorem cc_sum (X : Cx) (h : X.calm = true) : CallR X (.builtin "sum") (rSum2 X.K) := call_sum2 h
theorem cc_max (X : Cx) (h : X.calm = true) : CallR X (.builtin "max") (rMx2 X.K) := call_mx2 h
theorem cc_min (X : Cx) (h : X.calm = true) : CallR X (.builtin "min") (rMn2 X.K) := call_mn2 h
/-- repr of data -/
def rRepr (K : PySem.W.Frag) : List V → Hp → VK → Prop := fun xs H Q => ∃ (a : Addr) (d : PyData), xs = [.ref a] ∧ Dp K H (.ref a) d ∧ d.showable = true ∧ d.hasDict = false ∧ d.depth ≤ 60 ∧ d.shown.length ≤ sizeLine ∧ Q (.str d.shown) H
end
section
variable {K : PySem.W.Frag} {H : Hp} {Q : VK} {v x y : V} {b : Bool}
theorem o_fdW {f : Int → Int → V} {i j : Int} (h1 : 0 < j) (h2 : j ≤ 10 ^ 90) (h : Q (f i j) H) : rI CDivW f (.int i) (.int j) H Q :=
  ⟨i, j, rfl, rfl, wide_div (b := 400) h1 (by
    have : (10 : Int) ^ 90 < 2 ^ 400 := by decide +kernel
    omega) (by decide) (by decide), h⟩
/-- a rest, its bounds alone -/
theorem o_modG {i j : Int} (h1 : 0 < j) (h : ∀ r : Int, 0 ≤ r → r < j → Q (.int r) H) : rI (fun _ j => 0 < j) (fun i j => .int (i % j)) (.int i) (.int j) H Q := o_mod h1 (h _ (Int.emod_nonneg _ (by omega)) (Int.emod_lt_of_pos _ h1))
theorem b_all {a : Addr} {bs : List Bool} (hs : SqL K H a (bs.map V.bl)) (h : Q (.bl (bs.all id)) H) : rAll2 K [.ref a] H Q := ⟨a, bs, rfl, hs, h⟩
theorem b_sum {a : Addr} {ns : List Int} (hs : SqL K H a (ns.map V.int)) (h : Q (.int ns.sum) H) : rSum2 K [.ref a] H Q := ⟨a, ns, rfl, hs, h⟩
theorem b_mx {i j : Int} (h : Q (.int (max i j)) H) : rMx2 K [.int i, .int j] H Q := ⟨i, j, rfl, by
  have e : (if j > i then j else i) = max i j := by split <;> omega
  rw [e]
  exact h⟩
theorem b_mn {i j : Int} (h : Q (.int (min i j)) H) : rMn2 K [.int i, .int j] H Q := ⟨i, j, rfl, by
  have e : (if j < i then j else i) = min i j := by split <;> omega
  rw [e]
  exact h⟩
theorem b_is2 {n : String} {x : V} {tv : Value} (ty : TyX K H x tv) (h : PySem.W.kitOne K tv (.type n) = some b) (q : Q (.bl b) H) : rIsi2 K [x, .ty n] H Q := .inl (b_isi ty h q)
theorem ls_new {a : Addr} {xs : List V} (hs : SqL K H a xs) (h : ∀ p H2, H p = none → Same H H2 → H2 p = some (.lst xs) → Q (.ref p) H2) : rLst K [.ref a] H Q := ⟨a, xs, rfl, .inl hs, new_same h⟩
theorem ls_newT {a : Addr} {xs : List V} (hs : SqT K H a xs) (h : ∀ p H2, H p = none → Same H H2 → H2 p = some (.lst xs) → Q (.ref p) H2) : rLst K [.ref a] H Q := ⟨a, xs, rfl, .inr hs, new_same h⟩
theorem tp_new {a : Addr} {xs : List V} (hs : SqL K H a xs) (h : ∀ p H2, H p = none → Same H H2 → H2 p = some (.tup xs) → Q (.ref p) H2) : W6.rTup K [.ref a] H Q := W6.b_tup hs h
theorem tp_same {a : Addr} {xs : List V} (hs : SqT K H a xs) (h : Q (.ref a) H) : W6.rTup K [.ref a] H Q := ⟨a, xs, rfl, .inr ⟨hs, h⟩⟩
end
/-! ### draws -/
/-- each draw lies below its size -/
inductive Dr : List Int → List Int → Prop
  | nil : Dr [] []
  | cons {d s : Int} {ds ss : List Int} : 0 ≤ d → d < s → Dr ds ss → Dr (d :: ds) (s :: ss)
theorem Dr.len : ∀ {ds ss : List Int}, Dr ds ss → ds.length = ss.length
  | _, _, .nil => rfl
  | _, _, .cons _ _ h => by rw [List.length_cons, List.length_cons, h.len]
theorem Dr.snoc : ∀ {ds ss : List Int} {d s : Int}, Dr ds ss → 0 ≤ d → d < s → Dr (ds ++ [d]) (ss ++ [s])
  | _, _, _, _, .nil, h1, h2 => .cons h1 h2 .nil
  | _, _, _, _, .cons a b h, h1, h2 => .cons a b (h.snoc h1 h2)
theorem Dr.at : ∀ {ds ss : List Int} {i : Nat} {s : Int}, Dr ds ss → ss[i]? = some s → ∃ d, ds[i]? = some d ∧ 0 ≤ d ∧ d < s
  | _, _, 0, _, .cons a b _, e => by cases e; exact ⟨_, rfl, a, b⟩
  | _, _, i + 1, _, .cons _ _ h, e => h.at (i := i) e
theorem Dr.get {ds ss : List Int} {i : Nat} {d : Int} (h : Dr ds ss) (e : ds[i]? = some d) : ∃ s, ss[i]? = some s ∧ 0 ≤ d ∧ d < s := by
  have hl := h.len
  have hi := (List.getElem?_eq_some_iff.mp e).1
  obtain ⟨d', e', h1, h2⟩ := h.at (i := i) (List.getElem?_eq_getElem (by omega))
  rw [e] at e'
  cases e'
  exact ⟨_, List.getElem?_eq_getElem (by omega), h1, h2⟩
theorem Dr.inv {ds ss : List Int} {s : Int} (h : Dr ds (s :: ss)) : ∃ d r, ds = d :: r ∧ 0 ≤ d ∧ d < s ∧ Dr r ss := by
  cases h with
  | cons h1 h2 h3 => exact ⟨_, _, rfl, h1, h2, h3⟩
theorem Dr.nil_inv {ds : List Int} (h : Dr ds []) : ds = [] := by
  cases h
  rfl
/-- sizes that may be drawn below -/
def SzOk (ss : List Int) : Prop := ss.length ≤ 1000 ∧ ∀ s ∈ ss, 0 < s ∧ s ≤ 10 ^ 80
theorem szOk_of {ss : List Int} (h : (decide (ss.length ≤ 1000) && ss.all fun s => decide (0 < s) && decide (s ≤ 10 ^ 80)) = true) : SzOk ss := by
  simp only [Bool.and_eq_true, decide_eq_true_eq, List.all_eq_true] at h
  exact h
def PR : List Int := [2147483647, 998244353, 1000000007, 1000000009, 4294967291, 1073741789, 536870909, 2305843009213693951]
theorem pr_at {j : Nat} (h : j < 8) : ∃ p, PR[j]? = some p ∧ 0 < p ∧ p < 2 ^ 62 := by
  have : ∀ j, j < 8 → 0 < PR.getD j 0 ∧ PR.getD j 0 < 2 ^ 62 := by decide +kernel
  exact ⟨PR.getD j 0, by rw [List.getD_eq_getElem?_getD, List.getElem?_eq_getElem (by exact h)]; rfl, this j h⟩
theorem ix_pr {K : PySem.W.Frag} {H : Hp} {Q : VK} {a : Addr} {i : Int} (e : H a = some (.lst (PR.map V.int))) (h0 : 0 ≤ i) (h8 : i < 8) (h : ∀ p : Int, 0 < p → p < 2 ^ 62 → Q (.int p) H) : rIx K (.ref a) (.int i) H Q := by
  obtain ⟨p, g, p1, p2⟩ := pr_at (j := i.toNat) (by omega)
  exact o_ixL (lst_of e) (atI_of (j := i.toNat) (by omega) (v := .int p) (by rw [List.getElem?_map, g]; rfl)) (h p p1 p2)
/-- an int out of a list of ints -/
theorem ix_int {K : PySem.W.Frag} {H : Hp} {Q : VK} {a : Addr} {xs : List Int} {i : Int} (hs : SqL K H a (xs.map V.int)) (h0 : 0 ≤ i) (h1 : i < xs.length) (h : ∀ x : Int, xs[i.toNat]? = some x → Q (.int x) H) : rIx K (.ref a) (.int i) H Q := by
  have e := List.getElem?_eq_getElem (l := xs) (i := i.toNat) (by omega)
  exact o_ixL hs (atI_of (j := i.toNat) (by omega) (v := .int xs[i.toNat]) (by rw [List.getElem?_map, e]; rfl)) (h _ e)
def spCellN (K : PySem.W.Frag) : Sp := fun vs H Q _ => ∃ (a : Addr) (ns : List Int) (k : Int), vs = [.ref a, .int k] ∧ SqL K H a (ns.map V.int) ∧ ∀ r : Int, Q (.int r) H
def spDraws (K : PySem.W.Frag) : Sp := fun vs H Q _ => ∃ (a b : Addr) (ns ss : List Int) (k : Int), vs = [.ref a, .int k, .ref b] ∧ SqL K H a (ns.map V.int) ∧ SqL K H b (ss.map V.int) ∧ SzOk ss ∧
  ∀ p H' ds, Same H H' → H p = none → H' p = some (.lst ((ds : List Int).map V.int)) → Dr ds ss → Q (.ref p) H'
/-! ### lists and tuples alike -/
def iSeq (K : PySem.W.Frag) (te : TE) : TI := fun σ H R => iList K te σ H R ∨ iTup K te σ H R
theorem pi_seq {X : Cx} {tg e : Expr} {te : TE} (h : PE X e te) : PI X tg e (iSeq X.K te) := ⟨fun pins s σ H R I q => q.elim (fun q => (pi_list h).run pins s σ H R I q) (fun q => (pi_tup h).run pins s σ H R I q)⟩
theorem w_sl {K : PySem.W.Frag} {te : TE} {σ : L2.St} {H : Hp} {R : It → Hp → Prop} (h : te σ H fun x H1 => KL K x H1 R) : iSeq K te σ H R := .inl h
theorem w_st {K : PySem.W.Frag} {te : TE} {σ : L2.St} {H : Hp} {R : It → Hp → Prop} (h : te σ H fun x H1 => KT K x H1 R) : iSeq K te σ H R := .inr h
def Sq (K : PySem.W.Frag) (H : Hp) (a : Addr) (xs : List V) : Prop := SqL K H a xs ∨ SqT K H a xs
theorem Sq.same {K : PySem.W.Frag} {H H' : Hp} {a : Addr} {xs : List V} (h : Sq K H a xs) (s : Same H H') : Sq K H' a xs := h.imp (fun h => s.seq h) fun h => seqT s h
/-- an iterator over such -/
def SqIt (K : PySem.W.Frag) (a : Addr) (xs : List V) (J : It) (H : Hp) : Prop := (J = Itl K a ∧ SqL K H a xs) ∨ (J = Itt K a ∧ SqT K H a xs)
theorem SqIt.same {K : PySem.W.Frag} {H H' : Hp} {a : Addr} {xs : List V} {J : It} (h : SqIt K a xs J H) (s : Same H H') : SqIt K a xs J H' := h.imp (fun h => ⟨h.1, s.seq h.2⟩) fun h => ⟨h.1, seqT s h.2⟩
section
variable {K : PySem.W.Frag} {σ : L2.St} {H : Hp} {Q : VK} {D : Ends} {t : TS} {te : TE} {tt : TT} {g : TG} {a : Addr} {xs : List V} {vs : List Nat} {i : Nat} {J : It}
/-- for x in v, v a slot -/
theorem w_sq {R : It → Hp → Prop} (hs : Sq K H a xs) (e : σ[i]? = some (some (.ref a))) (h : ∀ J, SqIt K a xs J H → R J H) : iSeq K (tVar i) σ H R := by
  rcases hs with hs | hs
  · exact .inl (w_l (e_var e (k_l hs (h _ (.inl ⟨rfl, hs⟩)))))
  · exact .inr (w_t (e_var e (k_t hs (h _ (.inr ⟨rfl, hs⟩)))))
theorem f_sq {H0 : Hp} (hJ : SqIt K a xs J H0) (Pv : Nat → L2.St → Hp → Prop) (h0 : Pv 0 σ H) (hl : ∀ i σ H, Pv i σ H → Same H0 H)
    (hs : ∀ i x σ H, xs[i]? = some x → Pv i σ H → g x σ H fun σ2 H2 => t ⟨Pv (i + 1), D.rt, D.nx, Pv (i + 1)⟩ σ2 H2) (hd : ∀ σ H, Pv xs.length σ H → D.nx σ H) : LoopF J g t D σ H := by
  rcases hJ with ⟨rfl, hJ⟩ | ⟨rfl, hJ⟩
  · exact f_list Pv h0 (fun i σ H _ p => (hl i σ H p).seq hJ) hs hd
  · exact f_tup Pv h0 (fun i σ H _ p => seqT (hl i σ H p) hJ) hs hd
/-- a list comprehension: what is taken so far -/
theorem c_acc (hJ : SqIt K a xs J H) (R : Nat → List V → Hp → Prop) (mono : ∀ i acc H H', TK H H' → R i acc H → R i acc H') (small : ∀ i acc H, i ≤ xs.length → R i acc H → acc.length < sizeLine) (r0 : R 0 [] H)
    (step : ∀ i x H1 acc (N : VK) (M : Hp → Prop), xs[i]? = some x → Same H H1 → R i acc H1 → (∀ y H3, Same H1 H3 → R (i + 1) (acc ++ [y]) H3 → N y H3) → (∀ H3, Same H1 H3 → R (i + 1) acc H3 → M H3) →
      g x (wipe σ vs) H1 fun σ2 H2 => wipe σ2 vs = wipe σ vs ∧ tt σ2 H2 fun b H3 => if b = true then te σ2 H3 N else M H3)
    (post : ∀ D H2 ys, H D = none → Same H H2 → H2 D = some (.lst ys) → R xs.length ys H2 → Q (.ref D) H2) : LoopC J g tt te vs σ H Q := by
  have key : ∀ (D : Addr) (i : Nat) (x : V) (H1 : Hp), xs[i]? = some x → H D = none → (Same H H1 ∧ ∃ acc, H1 D = some (.lst acc) ∧ R i acc H1) → g x (wipe σ vs) H1 fun σ2 H2 => wipe σ2 vs = wipe σ vs ∧ tt σ2 H2 fun b H3 =>
      if b = true then te σ2 H3 fun y H4 => COut D y H4 (fun H5 => Same H H5 ∧ ∃ acc, H5 D = some (.lst acc) ∧ R (i + 1) acc H5) else (fun H5 => Same H H5 ∧ ∃ acc, H5 D = some (.lst acc) ∧ R (i + 1) acc H5) H3 := by
    intro D i x H1 hx nD ⟨s1, acc, e1, r1⟩
    have hi := (List.getElem?_eq_some_iff.mp hx).1
    refine step i x H1 acc _ _ hx s1 r1 (fun y H3 s3 r3 => ?_) (fun H3 s3 r3 => ⟨s1.trans s3, acc, s3 _ _ e1, r3⟩)
    refine c_out (s3 _ _ e1) (small i acc H1 (by omega) r1) fun H4 c4 e4 => ⟨c4.same (s1.trans s3) nD, _, e4, mono _ _ _ _ (c4.tk (s3 _ _ e1)) r3⟩
  have p0 : ∀ (D : Addr) (H1 : Hp), H D = none → Same H H1 → H1 D = some (.lst []) → (Same H H1 ∧ ∃ acc, H1 D = some (.lst acc) ∧ R 0 acc H1) := fun D H1 nD s1 e1 => ⟨s1, [], e1, mono _ _ _ _ s1.tk r0⟩
  have pe : ∀ (D : Addr) (H1 : Hp), H D = none → (Same H H1 ∧ ∃ acc, H1 D = some (.lst acc) ∧ R xs.length acc H1) → Q (.ref D) H1 := fun D H1 nD ⟨s1, acc, e1, r1⟩ => post D H1 acc nD s1 e1 r1
  rcases hJ with ⟨rfl, hJ⟩ | ⟨rfl, hJ⟩
  · exact c_list (fun D i H1 => Same H H1 ∧ ∃ acc, H1 D = some (.lst acc) ∧ R i acc H1) p0 (fun D i H1 _ _ p => p.1.seq hJ) (fun D i x H1 hx nD p => key D i x H1 hx nD p) pe
  · exact fun D nD => lc_tup (fun i H1 => Same H H1 ∧ ∃ acc, H1 D = some (.lst acc) ∧ R i acc H1) (p0 D _ nD (same_new nD) upd_same) (fun i H1 _ p => seqT p.1 hJ) (fun i x H1 hx p => key D i x H1 hx nD p) fun H1 p => pe D H1 nD p
theorem c_accR {lo : Int} {n : Nat} (R : Nat → List V → Hp → Prop) (mono : ∀ i acc H H', TK H H' → R i acc H → R i acc H') (small : ∀ i acc H, i ≤ n → R i acc H → acc.length < sizeLine) (r0 : R 0 [] H)
    (step : ∀ i H1 acc (N : VK) (M : Hp → Prop), i < n → Same H H1 → R i acc H1 → (∀ y H3, Same H1 H3 → R (i + 1) (acc ++ [y]) H3 → N y H3) → (∀ H3, Same H1 H3 → R (i + 1) acc H3 → M H3) →
      g (.int (lo + i)) (wipe σ vs) H1 fun σ2 H2 => wipe σ2 vs = wipe σ vs ∧ tt σ2 H2 fun b H3 => if b = true then te σ2 H3 N else M H3)
    (post : ∀ D H2 ys, H D = none → Same H H2 → H2 D = some (.lst ys) → R n ys H2 → Q (.ref D) H2) : LoopC (Itr lo n) g tt te vs σ H Q := by
  refine c_range (fun D i H1 => Same H H1 ∧ ∃ acc, H1 D = some (.lst acc) ∧ R i acc H1) (fun D H1 nD s1 e1 => ⟨s1, [], e1, mono _ _ _ _ s1.tk r0⟩) (fun D i H1 hi nD p => ?_) (fun D H1 nD ⟨s1, acc, e1, r1⟩ => post D H1 acc nD s1 e1 r1)
  obtain ⟨s1, acc, e1, r1⟩ := p
  refine step i H1 acc _ _ hi s1 r1 (fun y H3 s3 r3 => ?_) (fun H3 s3 r3 => ⟨s1.trans s3, acc, s3 _ _ e1, r3⟩)
  refine c_out (s3 _ _ e1) (small i acc H1 (by omega) r1) fun H4 c4 e4 => ⟨c4.same (s1.trans s3) nD, _, e4, mono _ _ _ _ (c4.tk (s3 _ _ e1)) r3⟩
end
/-- one value an item -/
def One (P : Nat → V → Hp → Prop) (i : Nat) (acc : List V) (H : Hp) : Prop := acc.length = i ∧ ∀ j y, acc[j]? = some y → P j y H
theorem One.zero {P : Nat → V → Hp → Prop} {H : Hp} : One P 0 [] H := ⟨rfl, fun j y e => by cases e⟩
theorem One.snoc {P : Nat → V → Hp → Prop} {i : Nat} {acc : List V} {H H3 : Hp} {y : V} (mono : ∀ j z, P j z H → P j z H3) (o : One P i acc H) (h : P i y H3) : One P (i + 1) (acc ++ [y]) H3 := by
  refine ⟨by rw [List.length_append, o.1]; rfl, fun j z e => ?_⟩
  by_cases hj : j < acc.length
  · rw [List.getElem?_append_left hj] at e
    exact mono _ _ (o.2 j z e)
  · have hj2 := (List.getElem?_eq_some_iff.mp e).1
    rw [List.length_append, List.length_singleton] at hj2
    have : j = acc.length := by omega
    subst this
    rw [List.getElem?_append_right (Nat.le_refl _), Nat.sub_self] at e
    cases e
    rw [o.1]
    exact h
/-- the list is known from its items -/
theorem One.eq {P : Nat → V → Hp → Prop} {α : Type} {F : α → V} {xs : List α} {acc : List V} {H : Hp} (o : One P xs.length acc H) (h : ∀ j y, j < xs.length → P j y H → xs[j]?.map F = some y) : acc = xs.map F := by
  refine List.ext_getElem? fun j => ?_
  by_cases hj : j < xs.length
  · have hj2 : j < acc.length := by rw [o.1]; exact hj
    rw [List.getElem?_map, h j _ hj (o.2 j acc[j] (List.getElem?_eq_getElem hj2)), List.getElem?_eq_getElem hj2]
  · rw [List.getElem?_eq_none (by rw [o.1]; omega), List.getElem?_eq_none (by rw [List.length_map]; omega)]
theorem One.eqR {P : Nat → V → Hp → Prop} {n : Nat} {F : Nat → V} {acc : List V} {H : Hp} (o : One P n acc H) (h : ∀ j y, j < n → P j y H → y = F j) : acc = (List.range n).map F := by
  refine One.eq (xs := List.range n) (F := F) (by rw [List.length_range]; exact o) fun j y hj p => ?_
  rw [List.length_range] at hj
  rw [List.getElem?_range hj, h j y hj p]
  rfl
theorem One.ints {P : Nat → V → Hp → Prop} {n : Nat} {acc : List V} {H : Hp} (o : One P n acc H) (h : ∀ j y, j < n → P j y H → ∃ i : Int, y = .int i) : ∃ xs : List Int, acc = xs.map V.int ∧ xs.length = n := by
  have key : ∀ acc : List V, (∀ y ∈ acc, ∃ i : Int, y = .int i) → ∃ xs : List Int, acc = xs.map V.int := by
    intro acc
    induction acc with
    | nil => exact fun _ => ⟨[], rfl⟩
    | cons y r ih =>
      intro h
      obtain ⟨i, rfl⟩ := h y List.mem_cons_self
      obtain ⟨xs, rfl⟩ := ih fun z hz => h z (List.mem_cons_of_mem _ hz)
      exact ⟨i :: xs, rfl⟩
  obtain ⟨xs, e⟩ := key acc fun y hy => by
    obtain ⟨j, hj, e⟩ := List.getElem_of_mem hy
    exact h j y (by rw [← o.1]; exact hj) (o.2 j y (by rw [List.getElem?_eq_getElem hj, e]))
  exact ⟨xs, e, by rw [← o.1, e, List.length_map]⟩
/-- `xs` with the pattern n times -/
theorem One.const {n : Nat} {acc : List V} {H : Hp} {v : V} (o : One (fun _ y _ => y = v) n acc H) : acc = List.replicate n v := by
  refine List.ext_getElem? fun j => ?_
  rw [List.getElem?_replicate]
  by_cases hj : j < n
  · rw [if_pos hj, List.getElem?_eq_getElem (by rw [o.1]; exact hj), o.2 j _ (List.getElem?_eq_getElem (by rw [o.1]; exact hj))]
  · rw [if_neg hj, List.getElem?_eq_none (by rw [o.1]; omega)]
end WN
/-! WQ: data that is equal. -/
namespace WQ
open PySem PySem.Spec PyProof.Rows L2 Wy WN
mutual
/-- no truth value in it -/
def nb : PyData → Bool
  | .none => true
  | .bool _ => false
  | .int _ => true
  | .str _ => true
  | .list xs => nbAll xs
  | .tuple xs => nbAll xs
  | .dict _ => false
def nbAll : List PyData → Bool
  | [] => true
  | x :: xs => nb x && nbAll xs
end
mutual
theorem eqv_iff : ∀ (d e : PyData), nb d = true → nb e = true → (PyData.eqv d e = true ↔ d = e)
  | .none, e, _, h => by cases e <;> simp [PyData.eqv, nb] at h ⊢
  | .bool _, _, h, _ => by simp [nb] at h
  | .int i, e, _, h => by cases e <;> simp [PyData.eqv, nb] at h ⊢
  | .str x, e, _, h => by cases e <;> simp [PyData.eqv, nb] at h ⊢
  | .list xs, e, h, h' => by
    cases e with
    | list ys =>
      have ih := eqvAll_iff xs ys (by simpa [nb] using h) (by simpa [nb] using h')
      simp [PyData.eqv, ih]
    | _ => simp [PyData.eqv, nb] at h' ⊢
  | .tuple xs, e, h, h' => by
    cases e with
    | tuple ys =>
      have ih := eqvAll_iff xs ys (by simpa [nb] using h) (by simpa [nb] using h')
      simp [PyData.eqv, ih]
    | _ => simp [PyData.eqv, nb] at h' ⊢
  | .dict _, _, h, _ => by simp [nb] at h
theorem eqvAll_iff : ∀ (xs ys : List PyData), nbAll xs = true → nbAll ys = true → (PyData.eqvAll xs ys = true ↔ xs = ys)
  | [], [], _, _ => by simp [PyData.eqvAll]
  | [], _ :: _, _, _ => by simp [PyData.eqvAll]
  | _ :: _, [], _, _ => by simp [PyData.eqvAll]
  | x :: xs, y :: ys, h, h' => by
    simp only [nbAll, Bool.and_eq_true] at h h'
    have i1 := eqv_iff x y h.1 h'.1
    have i2 := eqvAll_iff xs ys h.2 h'.2
    simp [PyData.eqvAll, i1, i2]
end
theorem shaped_of {d : PyData} (h : d.canLay0 = true) (h2 : d.depth ≤ 64) : SeqAt.shaped d = true := by
  unfold SeqAt.shaped
  rw [h, decide_eq_true h2]
  rfl
section
variable {K : PySem.W.Frag} {H : Hp} {Q : VK} {x y : V} {d e : PyData}
theorem eq_same (h1 : Dp K H x d) (h2 : Dp K H y d) (hs : SeqAt.shaped d = true) (h : Q (.bl true) H) : rEq2 K x y H Q := by
  refine o_eqD h1 h2 hs hs ?_
  rw [SeqAt.eqv_refl _ (SeqAt.canLay_of_shaped hs)]
  exact h
theorem ne_same (h1 : Dp K H x d) (h2 : Dp K H y d) (hs : SeqAt.shaped d = true) (h : Q (.bl false) H) : rNe2 K x y H Q := by
  refine o_neD h1 h2 hs hs ?_
  rw [SeqAt.eqv_refl _ (SeqAt.canLay_of_shaped hs)]
  exact h
theorem eq_nb (h1 : Dp K H x d) (h2 : Dp K H y e) (hs : SeqAt.shaped d = true) (hs2 : SeqAt.shaped e = true) (n1 : nb d = true) (n2 : nb e = true) (hy : d = e → Q (.bl true) H) (hn : d ≠ e → Q (.bl false) H) : rEq2 K x y H Q := by
  refine o_eqD h1 h2 hs hs2 ?_
  have i := eqv_iff d e n1 n2
  cases q : PyData.eqv d e with
  | true => exact hy (i.mp q)
  | false => exact hn fun z => by rw [i.mpr z] at q; cases q
theorem ne_nb (h1 : Dp K H x d) (h2 : Dp K H y e) (hs : SeqAt.shaped d = true) (hs2 : SeqAt.shaped e = true) (n1 : nb d = true) (n2 : nb e = true) (hy : d = e → Q (.bl false) H) (hn : d ≠ e → Q (.bl true) H) : rNe2 K x y H Q := by
  refine o_neD h1 h2 hs hs2 ?_
  have i := eqv_iff d e n1 n2
  cases q : PyData.eqv d e with
  | true => exact hy (i.mp q)
  | false => exact hn fun z => by rw [i.mpr z] at q; cases q
end
theorem lay_all {α : Type} (F : α → PyData) : ∀ xs : List α, (∀ x ∈ xs, (F x).canLay0 = true) → PyData.canLayAll0 (xs.map F) = true
  | [], _ => by simp [PyData.canLayAll0]
  | x :: xs, h => by simp [PyData.canLayAll0, h x List.mem_cons_self, lay_all F xs fun y hy => h y (List.mem_cons_of_mem _ hy)]
theorem dep_all {α : Type} (F : α → PyData) (n : Nat) : ∀ xs : List α, (∀ x ∈ xs, (F x).depth ≤ n) → PyData.depthAll (xs.map F) ≤ n
  | [], _ => by simp [PyData.depthAll]
  | x :: xs, h => by
    have h1 := h x List.mem_cons_self
    have h2 := dep_all F n xs fun y hy => h y (List.mem_cons_of_mem _ hy)
    simp only [List.map_cons, PyData.depthAll]
    omega
theorem nb_all {α : Type} (F : α → PyData) : ∀ xs : List α, (∀ x ∈ xs, nb (F x) = true) → nbAll (xs.map F) = true
  | [], _ => by simp [nbAll]
  | x :: xs, h => by simp [nbAll, h x List.mem_cons_self, nb_all F xs fun y hy => h y (List.mem_cons_of_mem _ hy)]
theorem shL {α : Type} (F : α → PyData) (xs : List α) (n : Nat) (hn : n < 64) (h : ∀ x ∈ xs, (F x).canLay0 = true ∧ (F x).depth ≤ n) : SeqAt.shaped (.list (xs.map F)) = true :=
  shaped_of (by simp [PyData.canLay0, lay_all F xs fun x hx => (h x hx).1]) (by have := dep_all F n xs fun x hx => (h x hx).2; simp only [PyData.depth]; omega)
theorem shT {α : Type} (F : α → PyData) (xs : List α) (n : Nat) (hn : n < 64) (h : ∀ x ∈ xs, (F x).canLay0 = true ∧ (F x).depth ≤ n) : SeqAt.shaped (.tuple (xs.map F)) = true :=
  shaped_of (by simp [PyData.canLay0, lay_all F xs fun x hx => (h x hx).1]) (by have := dep_all F n xs fun x hx => (h x hx).2; simp only [PyData.depth]; omega)
theorem lay_int (i : Int) : (PyData.int i).canLay0 = true ∧ (PyData.int i).depth ≤ 0 := ⟨by simp [PyData.canLay0], by simp [PyData.depth]⟩
theorem lay_bool (b : Bool) : (PyData.bool b).canLay0 = true ∧ (PyData.bool b).depth ≤ 0 := ⟨by simp [PyData.canLay0], by simp [PyData.depth]⟩
theorem lay_tup {ds : List PyData} {n : Nat} (h : ∀ x ∈ ds, x.canLay0 = true ∧ x.depth ≤ n) : (PyData.tuple ds).canLay0 = true ∧ (PyData.tuple ds).depth ≤ n + 1 := by
  have h1 := lay_all id ds fun x hx => (h x hx).1
  have h2 := dep_all id n ds fun x hx => (h x hx).2
  rw [List.map_id] at h1 h2
  exact ⟨by simp [PyData.canLay0, h1], by simp only [PyData.depth]; omega⟩
/-! values to data -/
theorem dp_ints {K : PySem.W.Frag} {H : Hp} : ∀ xs : List Int, DpAll K H (xs.map V.int) (xs.map PyData.int)
  | [] => .nil
  | x :: xs => .cons (.int x) (dp_ints xs)
theorem dp_bls {K : PySem.W.Frag} {H : Hp} : ∀ xs : List Bool, DpAll K H (xs.map V.bl) (xs.map PyData.bool)
  | [] => .nil
  | x :: xs => .cons (.bl x) (dp_bls xs)
theorem tp_ints {H : Hp} : ∀ xs : List Int, TpAll H (xs.map V.int) (xs.map PyData.int)
  | [] => .nil
  | x :: xs => .cons (.int x) (tp_ints xs)
theorem ints_tp {H : Hp} : ∀ {xs : List Int} {vs : List V}, TpAll H vs (xs.map PyData.int) → vs = xs.map V.int
  | [], _, h => by cases h; rfl
  | x :: xs, _, h => by
    cases h with
    | cons h1 h2 =>
      cases h1
      rw [ints_tp h2]
      rfl
theorem tpGet {α : Type} {F : α → PyData} {H : Hp} {us : List V} {xs : List α} {i : Nat} {u : V} (t : TpAll H us (xs.map F)) (e : us[i]? = some u) : ∃ x, xs[i]? = some x ∧ Tp H u (F x) := by
  have hl := t.length
  rw [List.length_map] at hl
  have hi := (List.getElem?_eq_some_iff.mp e).1
  have hx : xs[i]? = some xs[i] := List.getElem?_eq_getElem (by omega)
  obtain ⟨v, e2, tv⟩ := t.get (i := i) (d := F xs[i]) (by rw [List.getElem?_map, hx]; rfl)
  rw [e] at e2
  cases e2
  exact ⟨_, hx, tv⟩
theorem tpAt {α : Type} {F : α → PyData} {H : Hp} {us : List V} {xs : List α} {i : Nat} {x : α} (t : TpAll H us (xs.map F)) (e : xs[i]? = some x) : ∃ u, us[i]? = some u ∧ Tp H u (F x) :=
  t.get (by rw [List.getElem?_map, e]; rfl)
theorem tp3 {H : Hp} {v : V} {d1 d2 d3 : PyData} (h : Tp H v (.tuple [d1, d2, d3])) : ∃ a v1 v2 v3, v = .ref a ∧ H a = some (.tup [v1, v2, v3]) ∧ Tp H v1 d1 ∧ Tp H v2 d2 ∧ Tp H v3 d3 := by
  cases h with
  | tup e r =>
    cases r with | cons h1 r => cases r with | cons h2 r => cases r with | cons h3 r =>
      cases r
      exact ⟨_, _, _, _, rfl, e, h1, h2, h3⟩
theorem tp2 {H : Hp} {v : V} {d1 d2 : PyData} (h : Tp H v (.tuple [d1, d2])) : ∃ a v1 v2, v = .ref a ∧ H a = some (.tup [v1, v2]) ∧ Tp H v1 d1 ∧ Tp H v2 d2 := by
  cases h with
  | tup e r =>
    cases r with | cons h1 r => cases r with | cons h2 r =>
      cases r
      exact ⟨_, _, _, rfl, e, h1, h2⟩
theorem tpL {H : Hp} {v : V} {ds : List PyData} (h : Tp H v (.tuple ds)) : ∃ a vs, v = .ref a ∧ H a = some (.tup vs) ∧ TpAll H vs ds := by
  cases h with
  | tup e r => exact ⟨_, _, rfl, e, r⟩
theorem tpSnoc {H : Hp} {us : List V} {ds : List PyData} {v : V} {d : PyData} (t : TpAll H us ds) (h : Tp H v d) : TpAll H (us ++ [v]) (ds ++ [d]) := by
  induction us generalizing ds with
  | nil => cases t; exact .cons h .nil
  | cons u r ih => cases t with | cons a b => exact .cons a (ih b)
theorem tpApp {H : Hp} {us vs : List V} {ds es : List PyData} (t : TpAll H us ds) (h : TpAll H vs es) : TpAll H (us ++ vs) (ds ++ es) := by
  induction us generalizing ds with
  | nil => cases t; exact h
  | cons u r ih => cases t with | cons a b => exact .cons a (ih b)
theorem tpOf {H : Hp} : ∀ {us : List V} {ds : List PyData}, us.length = ds.length → (∀ (j : Nat) (y : V) (d : PyData), us[j]? = some y → ds[j]? = some d → Tp H y d) → TpAll H us ds
  | [], [], _, _ => .nil
  | [], _ :: _, h, _ => by simp at h
  | _ :: _, [], h, _ => by simp at h
  | u :: us, d :: ds, h, g => .cons (g 0 u d rfl rfl) (tpOf (by simpa using h) fun j y d a b => g (j + 1) y d (by simpa using a) (by simpa using b))
/-- one by one over a range -/
theorem tpOne {P : Nat → V → Hp → Prop} {F : Nat → PyData} {n : Nat} {us : List V} {H : Hp} (o : One P n us H) (h : ∀ j y, j < n → P j y H → Tp H y (F j)) : TpAll H us ((List.range n).map F) :=
  tpOf (by rw [o.1, List.length_map, List.length_range]) fun j y d a b => by
    have hj : j < n := by have := (List.getElem?_eq_some_iff.mp a).1; rw [o.1] at this; exact this
    rw [List.getElem?_map, List.getElem?_range hj] at b
    cases b
    exact h j y hj (o.2 j y a)
/-- tuples of ints -/
def iT (xs : List Int) : PyData := .tuple (xs.map .int)
theorem tpI {H : Hp} {v : V} {xs : List Int} (h : Tp H v (iT xs)) : ∃ a, v = .ref a ∧ H a = some (.tup (xs.map V.int)) := by
  obtain ⟨a, vs, rfl, e, t⟩ := tpL h
  rw [ints_tp t] at e
  exact ⟨a, rfl, e⟩
theorem iT_tp {H : Hp} {a : Addr} {xs : List Int} (e : H a = some (.tup (xs.map V.int))) : Tp H (.ref a) (iT xs) := .tup e (tp_ints xs)
theorem iT_lay (xs : List Int) : (iT xs).canLay0 = true ∧ (iT xs).depth ≤ 1 := lay_tup fun x hx => by
  obtain ⟨i, _, rfl⟩ := List.mem_map.mp hx
  exact lay_int i
theorem nb_int : ∀ xs : List Int, nbAll (xs.map PyData.int) = true
  | [] => rfl
  | x :: xs => by simp [nbAll, nb, nb_int xs]
theorem iT_nb (xs : List Int) : nb (iT xs) = true := by
  show nbAll _ = true
  exact nb_int xs
end WQ
/-! WS: differences and values. -/
namespace WS
open PySem PySem.Spec PyProof.Rows L2 Wy WN WQ
abbrev Df := Int × Int × Int
def dfD (d : Df) : PyData := .tuple [.int d.1, .int d.2.1, .int d.2.2]
theorem dfD_lay (d : Df) : (dfD d).canLay0 = true ∧ (dfD d).depth ≤ 1 := lay_tup (n := 0) fun x hx => by
  simp only [List.mem_cons, List.not_mem_nil, or_false] at hx
  rcases hx with rfl | rfl | rfl <;> exact lay_int _
theorem dfD_nb (d : Df) : nb (dfD d) = true := rfl
/-- the value of a node -/
def lv (vs : List Int) (n : Int) : Int := (0 :: vs).getD n.toNat 0
def kept (vs : List Int) (d : Df) : Bool := decide (lv vs d.1 - lv vs d.2.1 ≤ d.2.2)
def InR (n : Nat) (d : Df) : Prop := 0 ≤ d.1 ∧ d.1 ≤ n ∧ 0 ≤ d.2.1 ∧ d.2.1 ≤ n
theorem lv_at {vs : List Int} {n : Int} (h0 : 0 ≤ n) (h1 : n ≤ vs.length) : ((0 :: vs).map V.int)[n.toNat]? = some (.int (lv vs n)) := by
  have : n.toNat < (0 :: vs).length := by rw [List.length_cons]; omega
  rw [List.getElem?_map, List.getElem?_eq_getElem this]
  unfold lv
  rw [List.getD_eq_getElem?_getD, List.getElem?_eq_getElem this]
  rfl
section
variable {K : PySem.W.Frag} {H : Hp} {Q : VK} {a : Addr} {xs : List V} {x y z : V}
theorem ix_lv {vs : List Int} {n : Int} (hs : SqL K H a ((0 :: vs).map V.int)) (h0 : 0 ≤ n) (h1 : n ≤ vs.length) (h : Q (.int (lv vs n)) H) : rIx K (.ref a) (.int n) H Q := o_ixL hs (atI_of (j := n.toNat) (by omega) (lv_at h0 h1)) h
theorem b_allT (hs : SqL K H a xs) (hx : ∀ (j : Nat) (y : V), xs[j]? = some y → y = .bl true) (h : Q (.bl true) H) : rAll2 K [.ref a] H Q := by
  have e : xs = (List.replicate xs.length true).map V.bl := by
    refine List.ext_getElem? fun j => ?_
    rw [List.getElem?_map, List.getElem?_replicate]
    by_cases hj : j < xs.length
    · rw [if_pos hj, List.getElem?_eq_getElem hj, hx j _ (List.getElem?_eq_getElem hj)]
      rfl
    · rw [if_neg hj, List.getElem?_eq_none (by omega)]
      rfl
  rw [e] at hs
  refine b_all hs ?_
  have : (List.replicate xs.length true).all id = true := by simp
  rw [this]
  exact h
/-- all of truths that are known one by one -/
theorem b_allM {α : Type} {ds : List α} {f : α → Bool} (hs : SqL K H a (ds.map fun d => V.bl (f d))) (h : Q (.bl (ds.all f)) H) : rAll2 K [.ref a] H Q := by
  have e : ds.map (fun d => V.bl (f d)) = (ds.map f).map V.bl := by rw [List.map_map]; rfl
  rw [e] at hs
  refine b_all hs ?_
  have : (ds.map f).all id = ds.all f := by rw [List.all_map]; rfl
  rw [this]
  exact h
theorem b_len0 (hs : SqL K H a []) (h : Q (.int 0) H) : rLn K [.ref a] H Q := b_lenL hs h
theorem b_lenT0 (hs : SqT K H a []) (h : Q (.int 0) H) : rLn K [.ref a] H Q := b_lenT hs h
theorem b_lenT1 (hs : SqT K H a [x]) (h : Q (.int 1) H) : rLn K [.ref a] H Q := b_lenT hs h
theorem b_lenT2 (hs : SqT K H a [x, y]) (h : Q (.int 2) H) : rLn K [.ref a] H Q := b_lenT hs h
theorem b_lenT3 (hs : SqT K H a [x, y, z]) (h : Q (.int 3) H) : rLn K [.ref a] H Q := b_lenT hs h
end
def spIsInt : Sp := fun vs H Q _ => ∃ i : Int, vs = [.int i] ∧ Q (.bl true) H
/-- all differences kept by values -/
def spKept (K : PySem.W.Frag) : Sp := fun vs H Q _ => ∃ (a b : Addr) (us : List V) (ds : List Df) (vals : List Int), vs = [.ref a, .ref b] ∧ Sq K H a us ∧ TpAll H us (ds.map dfD) ∧ H b = some (.lst (vals.map V.int)) ∧ (∀ d ∈ ds, InR vals.length d) ∧
  ds.length ≤ 1000 ∧ vals.length ≤ 900 ∧ ∀ H', Same H H' → Q (.bl (ds.all (kept vals))) H'
end WS
local macro_rules | `(tactic| walk_at "tr") => `(tactic| first | assumption | exact lst_of (by assumption) | exact tup_of (by assumption) | (refine L2.Same.seq (by assumption) ?_; walk_at "tr") | (refine seqT (by assumption) ?_; walk_at "tr"))
local macro_rules | `(tactic| walk_at "s") => `(tactic| with_reducible first
  | refine s_seq ?_ | refine s_asg ?_ | refine g_name ?_ | refine s_ret ?_ | refine s_retN ?_ | refine s_drop ?_ | refine s_if ?_ | refine s_next ?_ | refine s_brk ?_ | refine s_ct ?_ | refine s_for ?_
  | (apply e_var; with_unfolding_all rfl) | refine e_c ?_ | refine e_op ?_ | refine e_un ?_ | refine a_cons ?_ | refine a_nil ?_ | refine c_b ?_ | refine c_call ?_ | refine t_test ?_ | refine k_bl ?_ | refine t_b ?_ | refine t_tr ?_ | refine k_trB ?_ | refine k_trN ?_ | refine k_trI ?_
  | refine t_and ?_ | refine t_or ?_ | refine t_not ?_ | refine e_andV ?_ | refine e_orV ?_ | refine e_notV ?_ | refine e_if ?_ | refine e_chain ?_ | refine e_tup ?_ | refine e_lst ?_ | refine e_sl ?_ | refine p_no ?_ | refine p_so ?_ | refine k_int ?_
  | refine m_bm ?_ | refine g_sub ?_ | refine m_m1 ?_ | refine m_st ?_ | refine e_lc ?_ | refine t_yes ?_ | refine w_r1 ?_ | refine w_r2 ?_ | refine w_l ?_ | refine w_t ?_ | refine w_s ?_ | refine k_s ?_
  | (apply s_aug; with_unfolding_all rfl) | refine i_add ?_ | refine o_addI ?_ | refine o_I0 ?_ | refine b_int ?_ | refine b_intB ?_ | refine b_abs ?_ | refine u_neg ?_ | refine o_isN ?_ | refine o_ntN ?_ | refine o_inS ?_ | refine o_niS ?_
  | refine g_cons ?_ | refine g_nil ?_ | refine e_joined ?_ | refine j_nil ?_ | refine j_cons ?_ | refine e_fmt ?_
  | refine WD.e_dget ?_ | refine WD.s_dput ?_
  | (refine o_mod ?_ ?_; omega) | (refine o_fdiv ?_ ?_ ?_; omega; omega) | (refine o_pow ?_ ?_ ?_ ?_; omega; omega; omega) | (refine o_mulI2 ?_ ?_ ?_; omega; omega) | (refine o_mulI1 ?_ ?_ ?_; omega; omega)
  | (refine WN.o_fdW ?_ ?_ ?_; omega; omega))
local macro_rules | `(tactic| walk_at "ss") => `(tactic| repeat walk_at "s")
local macro_rules | `(tactic| walk_at "ne") => `(tactic| first | assumption | exact Ne.symm (by assumption) | exact WN.ne_new (by assumption) (by walk_at "hp0") | exact Ne.symm (WN.ne_new (by assumption) (by walk_at "hp0")))
local macro_rules | `(tactic| walk_at "hp0") => `(tactic| first | assumption | (refine WN.sm (by assumption) ?_; walk_at "hp0"))
local macro_rules | `(tactic| walk_at "hp") => `(tactic| first | assumption | (refine WN.sm (by assumption) ?_; walk_at "hp") | (refine WN.cm (by assumption) (by walk_at "ne") ?_; walk_at "hp"))
local macro_rules | `(tactic| walk_at "sq") => `(tactic| first | assumption | exact lst_of (by walk_at "hp") | exact tup_of (by walk_at "hp") | (refine L2.Same.seq (by assumption) ?_; walk_at "sq") | (refine seqT (by assumption) ?_; walk_at "sq"))
local macro_rules | `(tactic| walk_at "sa") => `(tactic| first | assumption | exact L2.Same.refl _ | (refine L2.Same.trans ?_ (by assumption); walk_at "sa"))
local macro_rules | `(tactic| walk_at "ty") => `(tactic| first | exact .base (.int _) | exact .base (.bl _) | exact .base .non | exact .base (.str _) | exact .base (.lst (by walk_at "hp")) | exact .base (.tup (by walk_at "hp")))
local macro_rules | `(tactic| walk_at "x") => `(tactic| with_reducible first
  | walk_at "s"
  | (refine n_obj ?_ (fun _ _ _ _ _ => ?_); exact lz (Nat.le_of_ble_eq_true rfl))
  | (apply o_ixT; walk_at "sq"; with_unfolding_all rfl)
  | (apply o_ixL; walk_at "sq"; with_unfolding_all rfl)
  | (apply g_tup; walk_at "sq"; with_unfolding_all rfl)
  | (apply l_L; walk_at "sq"; intro _ _ _ _ _)
  | (refine k_r1 ?_ ?_ ?_; omega; omega)
  | refine WN.b_mx ?_ | refine WN.b_mn ?_
  | (apply k_l; walk_at "sq") | (apply k_t; walk_at "sq")
  | (apply WS.b_lenT2; walk_at "sq") | (apply WS.b_lenT3; walk_at "sq")
  | (apply WN.b_is2 (b := true); walk_at "ty"; exact L2.kit_ty (by decide +kernel)) | (apply WN.b_is2 (b := false); walk_at "ty"; exact L2.kit_ty (by decide +kernel))
  | refine L2.iteT ?_ | refine L2.iteF ?_
  | (refine WN.iteTT ?_ ?_; first | decide +kernel | exact WN.nNRN _ | exact WN.nNIN _ | exact WN.nNSN _ | exact WN.nNBN _)
  | (refine WN.iteFF ?_ ?_; first | decide +kernel | exact WN.nRN _ | exact WN.nIN _ | exact WN.nSN _ | exact WN.nBN _)
  | (refine o_eqS ?_ ?_; with_unfolding_all rfl) | (refine o_neS ?_ ?_; with_unfolding_all rfl))
local macro_rules | `(tactic| walk_at "xx") => `(tactic| repeat walk_at "x")
local macro_rules | `(tactic| walk_at "fr") => `(tactic| first | assumption | exact WN.free_of (by assumption) (by walk_at "sa"))
local macro_rules | `(tactic| walk_at "tp") => `(tactic| first | exact .nil | exact .int _ | exact .bl _ | exact .str _ | exact .non | (refine .cons ?_ ?_ <;> walk_at "tp") | (refine .tup (by walk_at "hp") ?_; walk_at "tp"))
/-! WC: sequences of either kind, and chains. -/
namespace WC
open PySem PySem.Spec PyProof.Rows L2 Wy WN WQ WS
abbrev tStar := StX.tStar
theorem pa_star {X : Cx} {e : Expr} {es : List Expr} {p : Pos} {te : TE} {t : TA} (he : PE X e te) (hr : PA X es t) (hs : starEach (.Starred e p :: es) X.env = (true, eval e X.env) :: starEach es X.env := by rfl) : PA X (.Starred e p :: es) (tStar X.K te t) := StX.pa_star he hr hs
theorem ixN_of {n : Nat} {k : Int} (h0 : 0 ≤ k) (h1 : k < n) : ixN n k = some k.toNat := by
  obtain ⟨j, rfl⟩ : ∃ j : Nat, k = j := ⟨k.toNat, by omega⟩
  rw [ixN_nat (by omega), Int.toNat_natCast]
theorem erase_perm {α : Type} : ∀ {xs : List α} {i : Nat} {x : α}, xs[i]? = some x → (x :: xs.eraseIdx i).Perm xs
  | [], _, _, h => by cases h
  | y :: xs, 0, x, h => by
    cases h
    exact .refl _
  | y :: xs, i + 1, x, h => (List.Perm.swap y x _).trans ((erase_perm (xs := xs) (i := i) h).cons y)
theorem take_sum1 {ws : List Int} {i : Nat} {w : Int} (h : ws[i]? = some w) : (ws.take (i + 1)).sum = (ws.take i).sum + w := by
  rw [List.take_succ, h, List.sum_append]
  simp
theorem nd_inj {α : Type} {xs : List α} {i j : Nat} {x : α} (nd : xs.Nodup) (h1 : xs[i]? = some x) (h2 : xs[j]? = some x) : i = j := by
  have l1 := (List.getElem?_eq_some_iff.mp h1).1
  exact (List.getElem?_inj l1 nd).mp (h1.trans h2.symm)
theorem tpIns {H : Hp} {v : V} {d : PyData} : ∀ {i : Nat} {us : List V} {ds : List PyData}, TpAll H us ds → Tp H v d → TpAll H (us.take i ++ [v] ++ us.drop i) (ds.take i ++ [d] ++ ds.drop i)
  | 0, us, ds, t, h => .cons h t
  | i + 1, _, _, .nil, h => .cons h .nil
  | i + 1, _, _, .cons a b, h => .cons a (tpIns (i := i) b h)
theorem tpTake {H : Hp} : ∀ {i : Nat} {us : List V} {ds : List PyData}, TpAll H us ds → TpAll H (us.take i) (ds.take i)
  | 0, us, ds, t => .nil
  | i + 1, _, _, .nil => .nil
  | i + 1, _, _, .cons a b => .cons a (tpTake (i := i) b)
theorem tpRev {H : Hp} : ∀ {us : List V} {ds : List PyData}, TpAll H us ds → TpAll H us.reverse ds.reverse
  | _, _, .nil => .nil
  | _, _, .cons a b => by
    rw [List.reverse_cons, List.reverse_cons]
    exact tpSnoc (tpRev b) a
section
variable {X : Cx}
theorem pe_bmK {K : PySem.W.Frag} {o e : Expr} {es : List Expr} {to : TE} {t : TA} {name : Str} {apos cpos : Pos} {T id : String} {r : V → List V → Hp → VK → Prop}
    (pa : PlainAttrs T) (slot : Slot T name id) (hty : typeOf (.builtin id) = pure (.type "method_descriptor")) (hm : MtR X id r) (ho : PE X o to) (ha : PA X (e :: es) t) (hK : X.K = K := by rfl)
    (hbase : attributeBase o name X.env (eval o X.env) = eval o X.env := by rfl)
    (hfew : ((backTo cpos (starEach (e :: es) X.env)).all (fun x => !x.1) && (backToKw cpos (keywordEach [] X.env)).all (fun x => x.1.isSome)
      && decide ((e :: es).length + ([] : List Keyword).length + (if ([] : List Keyword).isEmpty then 0 else 1) < 30)) = true := by rfl)
    (hline : (apos.endLine == cpos.line) = true := by rfl) (hs : starEach (e :: es) X.env = (false, eval e X.env) :: starEach es X.env := by rfl) (hplain : (backTo cpos (starEach es X.env)).any (·.1) = false := by rfl) :
    PE X (.Call (.Attribute o name apos) (e :: es) [] cpos) (tBM K T r to t) := hK ▸ pe_bm pa slot hty hm ho ha hbase hfew hline hs hplain
def rSl3 (K : PySem.W.Frag) : V → Option Int → Option Int → Hp → VK → Prop := fun x lo hi H Q => rSl2 K x lo hi H Q ∨ rSlA K x lo hi H Q
theorem sl_3 : SlR X (rSl3 X.K) := sl_2.or sl_tupA
def rIns : V → List V → Hp → VK → Prop := fun x vs H Q => ∃ (l : Addr) (xs : List V) (i : Int) (y : V), x = .ref l ∧ vs = [.int i, y] ∧ H l = some (.lst xs) ∧ xs.length < sizeLine ∧ 0 ≤ i ∧ i < 2 ^ 63 ∧ Q .non (upd H l (.lst (xs.take i.toNat ++ [y] ++ xs.drop i.toNat)))
theorem mt_insert2 : MtR X "list.insert" rIns := mt_insert
end
section
variable {K : PySem.W.Frag} {σ : L2.St} {H : Hp} {Q : VK} {QT : Bool → Hp → Prop} {te : TE} {tr : TA} {v x y : V} {QA : List V → Hp → Prop} {a : Addr} {xs : List V}
def KSt (K : PySem.W.Frag) (x : V) (t : TA) (σ : L2.St) (H : Hp) (QA : List V → Hp → Prop) : Prop := ∃ p xs, x = V.ref p ∧ (SqT K H p xs ∨ SqL K H p xs) ∧ t σ H fun ys H2 => QA (xs ++ ys) H2
theorem a_star (h : te σ H fun x H1 => KSt K x tr σ H1 QA) : tStar K te tr σ H QA := h
theorem k_st (hs : Sq K H a xs) (h : tr σ H fun ys H2 => QA (xs ++ ys) H2) : KSt K (.ref a) tr σ H QA := ⟨a, xs, rfl, hs.symm, h⟩
theorem k_trQ (hs : Sq K H a xs) (h : QT (!xs.isEmpty) H) : KTr K (.ref a) H QT := hs.elim (fun s => k_trL s h) fun s => k_trT s h
theorem b_lenQ (hs : Sq K H a xs) (h : Q (.int xs.length) H) : rLn K [.ref a] H Q := hs.elim (fun s => b_lenL s h) fun s => b_lenT s h
theorem o_ixQ {j : Int} (hs : Sq K H a xs) (e : atI xs j = some v) (h : Q v H) : rIx K (.ref a) (.int j) H Q := hs.elim (fun s => o_ixL s e h) fun s => o_ixT s e h
theorem ix_intQ {ns : List Int} {i : Int} (hs : Sq K H a (ns.map V.int)) (h0 : 0 ≤ i) (h1 : i < ns.length) (h : ∀ x : Int, ns[i.toNat]? = some x → Q (.int x) H) : rIx K (.ref a) (.int i) H Q := by
  have e := List.getElem?_eq_getElem (l := ns) (i := i.toNat) (by omega)
  exact o_ixQ hs (atI_of (j := i.toNat) (by omega) (v := .int ns[i.toNat]) (by rw [List.getElem?_map, e]; rfl)) (h _ e)
theorem m_ins {i : Int} (e : H a = some (.lst xs)) (hz : xs.length < sizeLine) (h0 : 0 ≤ i) (h1 : i ≤ xs.length) (h : ∀ H2, Chg a H H2 → H2 a = some (.lst (xs.take i.toNat ++ [y] ++ xs.drop i.toNat)) → Q .non H2) : rIns (.ref a) [.int i, y] H Q :=
  ⟨a, xs, i, y, rfl, rfl, e, hz, h0, by have : sizeLine = 16777216 := sizeLine_eq; omega, h _ chg_upd upd_same⟩
theorem m_popI {i : Int} (e : H a = some (.lst xs)) (hz : xs.length < sizeLine) (h0 : 0 ≤ i) (h1 : i < xs.length) (g : xs[i.toNat]? = some y) (h : ∀ H2, Chg a H H2 → H2 a = some (.lst (xs.eraseIdx i.toNat)) → Q y H2) : rPopAt (.ref a) [.int i] H Q := by
  have hs : sizeLine = 16777216 := sizeLine_eq
  refine ⟨a, xs, i, i.toNat, y, rfl, rfl, e, by omega, by omega, ?_, g, h _ chg_upd upd_same⟩
  unfold seqIndex?
  have : ¬ i < 0 := by omega
  simp [this, h0, h1]
/-- v[1:] of either kind, walked -/
theorem cut1 (xs : List V) : cutV xs (some 1) none = xs.drop 1 := by
  unfold cutV
  rw [show (1 : Int) = ((1 : Nat) : Int) from rfl, HT.sIx_nat]
  simp [HT.sIx]
  cases xs with
  | nil => rfl
  | cons x r => simp
theorem w_cut1 {b : Addr} {n : V} {r : List V} {i : Nat} {R : It → Hp → Prop} (hs : Sq K H b (n :: r)) (e : σ[i]? = some (some (.ref b))) (h : ∀ J p H2, Same H H2 → SqIt K p r J H2 → R J H2) :
    iSeq K (tSl (rSl3 K) (tVar i) (tPart (tC (.int 1))) tNoPart) σ H R := by
  have e1 : cutV (n :: r) (some 1) none = r := by rw [cut1]; rfl
  rcases hs with hs | hs
  · refine .inl (w_l (e_sl (e_var e (p_so (e_c (k_int (p_no ?_)))))))
    refine .inl (l_L hs fun p H2 np s2 e2 => ?_)
    rw [e1] at e2
    exact k_l (lst_of e2) (h _ p _ s2 (.inl ⟨rfl, lst_of e2⟩))
  · refine .inr (w_t (e_sl (e_var e (p_so (e_c (k_int (p_no ?_)))))))
    refine .inr ⟨b, n :: r, rfl, hs, fun c => ?_, fun _ => new_same (Q := fun x H1 => Wy.KT K x H1 R) fun p H2 np s2 e2 => ?_⟩
    · have := c.1
      rw [show (1 : Int) = ((1 : Nat) : Int) from rfl, HT.sIx_nat, List.length_cons] at this
      omega
    · rw [e1] at e2
      exact k_t (tup_of e2) (h _ p _ s2 (.inr ⟨rfl, tup_of e2⟩))
end
/-! ### chains -/
def dsAt (ds : List Df) (n : Int) : Df := ds.getD n.toNat (0, 0, 0)
def inB (m : Nat) (n : Int) : Bool := decide (0 ≤ n) && decide (n < (m : Int))
def runC : Df → List Df → Option Df
  | t, [] => some t
  | t, d :: r => if d.1 = t.2.1 then runC (t.1, d.2.1, t.2.2 + d.2.2) r else none
def csum (ds : List Df) : List Int → Option Df
  | [] => none
  | n :: r => if (n :: r).all (inB ds.length) = true then runC (dsAt ds n) (r.map (dsAt ds)) else none
def ringB (ds : List Df) (ns : List Int) : Bool := match csum ds ns with
  | none => false
  | some t => decide (t.1 = t.2.1) && decide (t.2.2 < 0)
def floorV (ds : List Df) (ns : List Int) (k : Int) : Option Int := match csum ds ns with
  | none => none
  | some t => if t.1 = 0 ∧ t.2.1 = k then some (-t.2.2) else none
theorem csum_cons {ds : List Df} {n : Int} {r : List Int} : csum ds (n :: r) = if (n :: r).all (inB ds.length) = true then runC (dsAt ds n) (r.map (dsAt ds)) else none := rfl
theorem ringB_none {ds : List Df} {ns : List Int} (e : csum ds ns = none) : ringB ds ns = false := by
  unfold ringB
  rw [e]
theorem ringB_some {ds : List Df} {ns : List Int} {t : Df} (e : csum ds ns = some t) : ringB ds ns = (decide (t.1 = t.2.1) && decide (t.2.2 < 0)) := by
  unfold ringB
  rw [e]
theorem floorV_none {ds : List Df} {ns : List Int} {k : Int} (e : csum ds ns = none) : floorV ds ns k = none := by
  unfold floorV
  rw [e]
theorem floorV_some {ds : List Df} {ns : List Int} {t : Df} {k : Int} (e : csum ds ns = some t) : floorV ds ns k = if t.1 = 0 ∧ t.2.1 = k then some (-t.2.2) else none := by
  unfold floorV
  rw [e]
inductive Path : List Df → Int → Int → Int → Prop
  | nil {u : Int} : Path [] u u 0
  | cons {r : List Df} {u v z c s : Int} : Path r v z s → Path ((u, v, c) :: r) u z (c + s)
theorem Path.app {b : List Df} {z t : Int} : ∀ {a : List Df} {u v s : Int}, Path a u v s → Path b v z t → Path (a ++ b) u z (s + t)
  | _, _, _, _, .nil, h => by
    rw [Int.zero_add]
    exact h
  | _, _, _, _, .cons p, h => by
    rw [Int.add_assoc]
    exact .cons (p.app h)
theorem Path.split {b : List Df} {z : Int} : ∀ {a : List Df} {u s : Int}, Path (a ++ b) u z s → ∃ m s1 s2, Path a u m s1 ∧ Path b m z s2 ∧ s = s1 + s2
  | [], u, s, h => ⟨u, 0, s, .nil, h, by omega⟩
  | d :: a, u, s, h => by
    cases h with
    | cons p =>
      obtain ⟨m, s1, s2, h1, h2, e⟩ := p.split
      exact ⟨m, _, s2, .cons h1, h2, by omega⟩
theorem Path.one {u v c : Int} : Path [(u, v, c)] u v c := by
  have := Path.cons (u := u) (c := c) (Path.nil (u := v))
  rwa [Int.add_zero] at this
theorem run_path {f : Int} : ∀ {es : List Df} {l z s t : Int}, Path es l z s → runC (f, l, t) es = some (f, z, t + s)
  | _, _, _, _, t, .nil => by rw [Int.add_zero]; rfl
  | _, _, _, _, t, .cons p => by
    unfold runC
    rw [if_pos rfl, run_path p]
    simp only [Option.some.injEq, Prod.mk.injEq, true_and]
    omega
theorem csum_path {ds : List Df} {ns : List Int} {u z s : Int} (h : ∀ n ∈ ns, 0 ≤ n ∧ n < ds.length) (p : Path (ns.map (dsAt ds)) u z s) (ne : ns ≠ []) : csum ds ns = some (u, z, s) := by
  cases ns with
  | nil => exact absurd rfl ne
  | cons n r =>
    show (if (n :: r).all (inB ds.length) = true then runC (dsAt ds n) (r.map (dsAt ds)) else none) = _
    rw [if_pos (List.all_eq_true.mpr fun x hx => by
      obtain ⟨h1, h2⟩ := h x hx
      unfold inB
      rw [decide_eq_true h1, decide_eq_true h2]
      rfl)]
    rw [List.map_cons] at p
    generalize dsAt ds n = d at p
    obtain ⟨a, b, c⟩ := d
    cases p with
    | cons p => exact run_path p
theorem kept_path {vs : List Int} : ∀ {es : List Df} {u z s : Int}, Path es u z s → (∀ d ∈ es, kept vs d = true) → lv vs u - lv vs z ≤ s
  | _, _, _, _, .nil, _ => by omega
  | _, u, z, _, .cons (v := v) (c := c) p, h => by
    have h1 := kept_path p fun d hd => h d (List.mem_cons_of_mem _ hd)
    have h2 := of_decide_eq_true (h (u, v, c) List.mem_cons_self)
    simp only at h2
    omega
theorem path_of (nd ws : Nat → Int) : ∀ n : Nat, Path ((List.range n).map fun k => (nd k, nd (k + 1), ws k)) (nd 0) (nd n) (((List.range n).map ws).sum)
  | 0 => .nil
  | n + 1 => by
    rw [List.range_succ, List.map_append, List.map_append, List.sum_append]
    refine (path_of nd ws n).app ?_
    simp only [List.map_cons, List.map_nil, List.sum_cons, List.sum_nil, Int.add_zero]
    exact Path.one
theorem path_rot {es : List Df} {u s : Int} (k : Nat) (p : Path es u u s) : ∃ m, Path (es.drop k ++ es.take k) m m s := by
  rw [← List.take_append_drop k es] at p
  obtain ⟨m, s1, s2, h1, h2, e⟩ := p.split
  refine ⟨m, ?_⟩
  rw [e, Int.add_comm]
  exact h2.app h1
theorem take_sum {ws : List Int} {n : Nat} (h : n ≤ ws.length) : (List.range n).map (fun k => ws.getD k 0) = ws.take n := by
  refine List.ext_getElem? fun j => ?_
  rw [List.getElem?_map, List.getElem?_take]
  by_cases hj : j < n
  · rw [List.getElem?_range hj, if_pos hj, List.getElem?_eq_getElem (by omega)]
    show some (ws.getD j 0) = _
    rw [List.getD_eq_getElem?_getD, List.getElem?_eq_getElem (by omega)]
    rfl
  · rw [List.getElem?_eq_none (by rw [List.length_range]; omega), if_neg hj]
    rfl
section
variable {K : PySem.W.Frag}
/-- the sum of a chain -/
def spChain (K : PySem.W.Frag) : Sp := fun vs H Q _ => ∃ (a b : Addr) (us : List V) (ds : List Df) (ns : List Int), vs = [.ref a, .ref b] ∧ Sq K H a us ∧ TpAll H us (ds.map dfD) ∧ Sq K H b (ns.map V.int) ∧ ds.length ≤ 1000 ∧ ns.length ≤ 1000 ∧
  (csum ds ns = none → ∀ H', Same H H' → Q .non H') ∧ ∀ t : Df, csum ds ns = some t → ∀ p H', Same H H' → H p = none → H' p = some (.tup [.int t.1, .int t.2.1, .int t.2.2]) → Q (.ref p) H'
def spRing (K : PySem.W.Frag) : Sp := fun vs H Q _ => ∃ (a b : Addr) (us : List V) (ds : List Df) (ns : List Int), vs = [.ref a, .ref b] ∧ Sq K H a us ∧ TpAll H us (ds.map dfD) ∧ Sq K H b (ns.map V.int) ∧ ds.length ≤ 1000 ∧ ns.length ≤ 1000 ∧
  ∀ H', Same H H' → Q (.bl (ringB ds ns)) H'
def oI : Option Int → V
  | none => .non
  | some i => .int i
def spFloor (K : PySem.W.Frag) : Sp := fun vs H Q _ => ∃ (a b : Addr) (us : List V) (ds : List Df) (ns : List Int) (k : Int), vs = [.ref a, .ref b, .int k] ∧ Sq K H a us ∧ TpAll H us (ds.map dfD) ∧ Sq K H b (ns.map V.int) ∧ ds.length ≤ 1000 ∧ ns.length ≤ 1000 ∧
  ∀ H', Same H H' → Q (oI (floorV ds ns k)) H'
def spKeeps (K : PySem.W.Frag) : Sp := fun vs H Q _ => ∃ (a b : Addr) (us : List V) (ds : List Df) (vals : List Int), vs = [.ref a, .ref b] ∧ Sq K H a us ∧ TpAll H us (ds.map dfD) ∧ Sq K H b (vals.map V.int) ∧ (∀ d ∈ ds, InR vals.length d) ∧
  ds.length ≤ 1000 ∧ vals.length ≤ 900 ∧ ∀ H', Same H H' → Q (.bl (ds.all (kept vals))) H'
def spTells : Sp := fun vs H Q _ => ∃ x y : Bool, vs = [.bl x, .bl y] ∧ Q (.bl (decide (x = y))) H
def spWt : Sp := fun vs H Q _ => ∃ d : Int, vs = [.int d] ∧ ∀ r : Int, Q (.int r) H
def spDiffs (K : PySem.W.Frag) : Sp := fun vs H Q _ => ∃ (a : Addr) (zs : List Int) (pl : Int) (n m : Nat), vs = [.ref a, .int pl, .int n, .int m] ∧ SqL K H a (zs.map V.int) ∧ n ≤ 100 ∧ m ≤ 1000 ∧
  ∀ p us H' ds, Same H H' → H p = none → H' p = some (.lst us) → TpAll H' us ((ds : List Df).map dfD) → ds.length = n → (∀ d ∈ ds, InR m d) → Q (.ref p) H'
end
end WC
/-! WE: comprehensions of the laws. -/
namespace WE
open PySem PySem.Spec PyProof.Rows L2 Wy WN WQ WS WC
section
variable {K : PySem.W.Frag} {σ : L2.St} {H : Hp} {Q : VK} {te : TE} {vs : List Nat} {i : Nat} {a : Addr}
/-- one value again and again -/
theorem c_const {lo : Int} {n : Nat} {v : V} (hte : ∀ σ H (N : VK), N v H → te σ H N) (hz : n ≤ 100000) (hw : ∀ x, wipe ((wipe σ vs).set i (some x)) vs = wipe σ vs) (post : ∀ D H2, H D = none → Same H H2 → H2 D = some (.lst (List.replicate n v)) → Q (.ref D) H2) :
    LoopC (Itr lo n) (gName i) tYes te vs σ H Q := by
  refine c_accR (One fun _ y _ => y = v) (fun _ _ _ _ _ h => h) (fun i acc H hi h => small1000' (by rw [h.1]; omega)) One.zero (fun j H1 acc N M hj s1 o hN hM => ?_) (fun D H1 ys nD s1 e1 o => ?_)
  · refine g_name ⟨hw _, t_yes ?_⟩
    exact iteTT rfl (hte _ _ _ (hN _ _ (Same.refl _) (o.snoc (fun _ _ h => h) rfl)))
  · rw [o.const] at e1
    exact post D H1 nD s1 e1
theorem c_constI {lo : Int} {n : Nat} {c : Int} (hte : ∀ σ H (N : VK), N (.int c) H → te σ H N) (hz : n ≤ 100000) (hw : ∀ x, wipe ((wipe σ vs).set i (some x)) vs = wipe σ vs) (post : ∀ D H2, H D = none → Same H H2 → H2 D = some (.lst ((List.replicate n c).map V.int)) → Q (.ref D) H2) :
    LoopC (Itr lo n) (gName i) tYes te vs σ H Q := c_const hte hz hw fun D H2 nD s e => post D H2 nD s (by rw [List.map_replicate]; exact e)
/-- an int from each int -/
theorem c_ints {xs : List Int} (hs : SqL K H a (xs.map V.int)) (hte : ∀ (x : Int) H (N : VK), (∀ r : Int, N (.int r) H) → te ((wipe σ vs).set i (some (.int x))) H N) (hz : xs.length ≤ 100000) (hw : ∀ x, wipe ((wipe σ vs).set i (some x)) vs = wipe σ vs)
    (post : ∀ D H2 (rs : List Int), H D = none → Same H H2 → rs.length = xs.length → H2 D = some (.lst (rs.map V.int)) → Q (.ref D) H2) : LoopC (Itl K a) (gName i) tYes te vs σ H Q := by
  refine c_acc (xs := xs.map V.int) (.inl ⟨rfl, hs⟩) (One fun _ y _ => ∃ r : Int, y = .int r) (fun _ _ _ _ _ h => h) (fun i acc H hi h => small1000' (by rw [h.1]; rw [List.length_map] at hi; omega)) One.zero (fun j x H1 acc N M hx s1 o hN hM => ?_) (fun D H1 ys nD s1 e1 o => ?_)
  · rw [List.getElem?_map] at hx
    obtain ⟨d, gd, rfl⟩ := Option.map_eq_some_iff.mp hx
    refine g_name ⟨hw _, t_yes ?_⟩
    exact iteTT rfl (hte _ _ _ fun r => hN _ _ (Same.refl _) (o.snoc (fun _ _ h => h) ⟨r, rfl⟩))
  · rw [List.length_map] at o
    obtain ⟨rs, rfl, lr⟩ := o.ints fun _ _ _ h => h
    exact post D H1 rs nD s1 lr e1
/-- ints by place -/
theorem c_rng {lo : Int} {n : Nat} (F : Nat → Int) (hte : ∀ (j : Nat) H (N : VK), j < n → N (.int (F j)) H → te ((wipe σ vs).set i (some (.int (lo + j)))) H N) (hz : n ≤ 100000) (hw : ∀ x, wipe ((wipe σ vs).set i (some x)) vs = wipe σ vs)
    (post : ∀ D H2, H D = none → Same H H2 → H2 D = some (.lst (((List.range n).map F).map V.int)) → Q (.ref D) H2) : LoopC (Itr lo n) (gName i) tYes te vs σ H Q := by
  refine c_accR (One fun j y _ => y = .int (F j)) (fun _ _ _ _ _ h => h) (fun i acc H hi h => small1000' (by rw [h.1]; omega)) One.zero (fun j H1 acc N M hj s1 o hN hM => ?_) (fun D H1 ys nD s1 e1 o => ?_)
  · refine g_name ⟨hw _, t_yes ?_⟩
    exact iteTT rfl (hte _ _ _ hj (hN _ _ (Same.refl _) (o.snoc (fun _ _ h => h) rfl)))
  · have ey := o.eqR fun j y _ h => h
    rw [ey] at e1
    exact post D H1 nD s1 (by rw [List.map_map]; exact e1)
/-- one datum by place -/
theorem c_tps {lo : Int} {n : Nat} (F : Nat → PyData) (hte : ∀ (j : Nat) H1 (N : VK), j < n → Same H H1 → (∀ y H3, Same H1 H3 → Tp H3 y (F j) → N y H3) → te ((wipe σ vs).set i (some (.int (lo + j)))) H1 N) (hz : n ≤ 100000) (hw : ∀ x, wipe ((wipe σ vs).set i (some x)) vs = wipe σ vs)
    (post : ∀ D H2 us, H D = none → Same H H2 → H2 D = some (.lst us) → TpAll H2 us ((List.range n).map F) → Q (.ref D) H2) : LoopC (Itr lo n) (gName i) tYes te vs σ H Q := by
  refine c_accR (One fun j y H => Tp H y (F j)) (fun i acc H H' k h => ⟨h.1, fun j y e => (h.2 j y e).tk k⟩) (fun i acc H hi h => small1000' (by rw [h.1]; omega)) One.zero (fun j H1 acc N M hj s1 o hN hM => ?_) (fun D H1 ys nD s1 e1 o => ?_)
  · refine g_name ⟨hw _, t_yes ?_⟩
    exact iteTT rfl (hte _ _ _ hj s1 fun y H3 s3 t => hN _ _ s3 (o.snoc (fun _ _ h => h.tk s3.tk) t))
  · exact post D H1 ys nD s1 e1 (tpOne o fun j y _ h => h)
theorem c_rngV {lo : Int} {n : Nat} (F : Nat → V) (hte : ∀ (j : Nat) H (N : VK), j < n → (∀ H3, Same H H3 → N (F j) H3) → te ((wipe σ vs).set i (some (.int (lo + j)))) H N) (hz : n ≤ 100000) (hw : ∀ x, wipe ((wipe σ vs).set i (some x)) vs = wipe σ vs)
    (post : ∀ D H2, H D = none → Same H H2 → H2 D = some (.lst ((List.range n).map F)) → Q (.ref D) H2) : LoopC (Itr lo n) (gName i) tYes te vs σ H Q := by
  refine c_accR (One fun j y _ => y = F j) (fun _ _ _ _ _ h => h) (fun i acc H hi h => small1000' (by rw [h.1]; omega)) One.zero (fun j H1 acc N M hj s1 o hN hM => ?_) (fun D H1 ys nD s1 e1 o => ?_)
  · refine g_name ⟨hw _, t_yes ?_⟩
    exact iteTT rfl (hte _ _ _ hj (fun H3 s3 => hN _ _ s3 (o.snoc (fun _ _ h => h) rfl)))
  · have ey := o.eqR fun j y _ h => h
    rw [ey] at e1
    exact post D H1 nD s1 e1
def KRev (K : PySem.W.Frag) (x : V) (H : Hp) (Q : VK) : Prop := ∃ a xs, x = V.ref a ∧ SqL K H a xs ∧ ∀ p, H p = none → Q (.ref p) (upd H p (.lst xs.reverse))
theorem e_revL (h : te σ H fun x H1 => KRev K x H1 Q) : tRevL K te σ H Q := h
theorem k_rev {xs : List V} (e : H a = some (.lst xs)) (h : ∀ p H2, H p = none → Same H H2 → H2 p = some (.lst xs.reverse) → Q (.ref p) H2) : KRev K (.ref a) H Q := ⟨a, xs, rfl, lst_of e, new_same h⟩
theorem ix_pick {c : Bool} {u v : V} (e : H a = some (.lst [u, v])) (h : Q (if c then v else u) H) : rIx K (.ref a) (.int (if c = true then 1 else 0)) H Q := by
  cases c with
  | true => exact o_ixL (lst_of e) (v := v) rfl h
  | false => exact o_ixL (lst_of e) (v := u) rfl h
theorem o_isB {a b : Bool} (h : Q (.bl (decide (a = b))) H) : rIsB (.bl a) (.bl b) H Q := ⟨a, b, rfl, rfl, h⟩
theorem o_ntB {a b : Bool} (h : Q (.bl (!decide (a = b))) H) : rNotB (.bl a) (.bl b) H Q := ⟨a, b, rfl, rfl, h⟩
theorem cutTo (xs : List V) {i : Int} (h : 0 ≤ i) : cutV xs none (some i) = xs.take i.toNat := by
  obtain ⟨k, rfl⟩ : ∃ k : Nat, i = k := ⟨i.toNat, by omega⟩
  unfold cutV
  rw [HT.sIx_nat, HT.sIx_none, List.drop_zero, Nat.sub_zero, Int.toNat_natCast]
  by_cases hk : k ≤ xs.length
  · rw [Nat.min_eq_left hk]
  · rw [Nat.min_eq_right (by omega), List.take_of_length_le (Nat.le_refl _), List.take_of_length_le (by omega)]
theorem cutFrom (xs : List V) {i : Int} (h : 0 ≤ i) : cutV xs (some i) none = xs.drop i.toNat := by
  obtain ⟨k, rfl⟩ : ∃ k : Nat, i = k := ⟨i.toNat, by omega⟩
  unfold cutV
  rw [HT.sIx_nat, HT.sIx_none, Int.toNat_natCast]
  by_cases hk : k ≤ xs.length
  · rw [Nat.min_eq_left hk, List.take_of_length_le (by rw [List.length_drop]; omega)]
  · rw [Nat.min_eq_right (by omega), List.drop_of_length_le (Nat.le_refl _), List.drop_of_length_le (by omega)]
    simp
theorem ne_ints {H : Hp} {a b v : Addr} {rs : List V} {xs : List Int} (h1 : H a = some (.lst (.ref v :: rs))) (h2 : H b = some (.lst (xs.map V.int))) : b ≠ a := by
  intro e
  subst e
  rw [h1] at h2
  cases xs <;> cases h2
end
end WE
/-! WO: instances of own classes. -/
namespace WO
open PySem PySem.Spec PyProof.Rows L2 Wy WN WQ
/-- a method of a class of the top -/
structure MetOk (K : PySem.W.Frag) (C m qual : Str) (st : Stmt) : Prop where
  ex : ∃ f fd, FunD K m qual (defArgs st) (defBody st) (defScope st) [] [] f fd ∧ Meth K (He.ga K C) m f
structure MakOk (K : PySem.W.Frag) (mg : Str → Option Value) (C qual : Str) (st : Stmt) : Prop where
  ex : ∃ f fd, FunD K "__init__" qual (defArgs st) (defBody st) (defScope st) [] [] f fd ∧ Mk K (He.ga K C) f ∧ mg C = some (.ref (He.ga K C))
section
variable {P : Program} {w : World} {K : PySem.W.Frag} {mg : Str → Option Value} {base : Heap} {C m qual : Str} {st : Stmt} {N ps : List Str} {k : Nat} {sp : Sp}
theorem met_of (F : MetOk K C m qual st) (cl : Cls K (He.ga K C)) (S : FnScope N ps (defScope st)) (hb : ∀ f fd, FunD K m qual (defArgs st) (defBody st) (defScope st) [] [] f fd → Binds K fd ps []) (len : ∀ vs H Q E, sp vs H Q E → vs.length = ps.length)
    (body : ∀ (f : Addr) (cdv : Value) (A : Around) (outer : List Env) (s : Shared) (H : Hp) (vs : List V) (Q : VK) (E : XK), Room k (A.deeper (envOfC qual (defScope st) s.heap.objs.size f cdv)) → sp vs H Q E →
      ∃ t, PSs (cxOf CX0 P w K mg base N qual (defScope st) f cdv A outer s H E).nox (defBody st) t ∧ t { nx := fun _ H' => Q .non H', rt := Q } (start N vs) H) : C8.Met P w K mg base (k + 1) (He.ga K C) m sp [] := by
  obtain ⟨f, fd, F, hm⟩ := F.ex
  refine ⟨f, fd, ps, [], cl, hm, F.ok S len fun cdv A outer s H vs Q E hr h => ?_, hb f fd F, .nil⟩
  obtain ⟨t, h1, h2⟩ := body f cdv A outer s H vs Q E hr h
  exact ⟨t, PSs.nox h1, h2⟩
theorem mak_of (F : MakOk K mg C qual st) (S : FnScope N ps (defScope st)) (hb : ∀ f fd, FunD K "__init__" qual (defArgs st) (defBody st) (defScope st) [] [] f fd → Binds K fd ps []) (len : ∀ vs H Q E, sp vs H Q E → vs.length = ps.length)
    (body : ∀ (f : Addr) (cdv : Value) (A : Around) (outer : List Env) (s : Shared) (H : Hp) (vs : List V) (Q : VK) (E : XK), Room k (A.deeper (envOfC qual (defScope st) s.heap.objs.size f cdv)) → sp vs H Q E →
      ∃ t, PSs (cxOf CX0 P w K mg base N qual (defScope st) f cdv A outer s H E).nox (defBody st) t ∧ t { nx := fun _ H' => Q .non H', rt := Q } (start N vs) H) : C8.Mak P w K mg base (k + 1) C (He.ga K C) sp [] := by
  obtain ⟨f, fd, F, hm, hg⟩ := F.ex
  refine ⟨f, fd, ps, [], hm, F.ok S len fun cdv A outer s H vs Q E hr h => ?_, hg, hb f fd F, .nil⟩
  obtain ⟨t, h1, h2⟩ := body f cdv A outer s H vs Q E hr h
  exact ⟨t, PSs.nox h1, h2⟩
end
section
variable {X : Cx}
theorem pe_fldK {K : PySem.W.Frag} {e : Expr} {f : Str} {pos : Pos} {ta : TE} (he : PE X e ta) (hK : X.K = K := by rfl) (hb : attributeBase e f X.env (eval e X.env) = eval e X.env := by rfl) : PE X (.Attribute e f pos) (tFld K ta f) := hK ▸ pe_fld he hb
theorem ps_fldK {K : PySem.W.Frag} {o value : Expr} {f : Str} {pos pos' : Pos} {ta tv : TE} (ha : PE X o ta) (hv : PE X value tv) (hK : X.K = K := by rfl) (hs : swapsWith value (some (.Attribute o f pos')) pos.line X.env = pure false := by rfl) :
    PS X (.Assign [.Attribute o f pos'] value pos) (sFld K ta tv f) := hK ▸ ps_fld ha hv hs
theorem ps_fldaugK {K : PySem.W.Frag} {o value : Expr} {f : Str} {pos pos' : Pos} {ta tv : TE} {op : Operator} {rd : V → V → Hp → VK → Prop} (ha : PE X o ta) (hv : PE X value tv) (hop : InOp X op rd) (hK : X.K = K := by rfl) :
    PS X (.AugAssign (.Attribute o f pos') op value pos) (sFldAug K ta tv rd f) := hK ▸ ps_fldaug ha hv hop
end
section
variable {K : PySem.W.Frag} {σ : L2.St} {H : Hp} {Q : VK} {D : Ends} {te ta tv : TE} {tl : TA} {v x y : V} {a C dx : Addr} {fs : List (Str × V)} {f m : Str} {sp : Sp} {dvs : List V} {E : XK}
def KFld (K : PySem.W.Frag) (f : Str) (x : V) (H : Hp) (Q : VK) : Prop := ∃ a C dx fs v, x = V.ref a ∧ H a = some (.ins C dx fs) ∧ Cls K C ∧ NoAttr K C f ∧ fs.lookup f = some v ∧ Q v H
theorem e_fld (h : te σ H fun x H1 => KFld K f x H1 Q) : tFld K te f σ H Q := h
theorem k_fld (e : H a = some (.ins C dx fs)) (c : Cls K C) (n : NoAttr K C f) (l : fs.lookup f = some v) (h : Q v H) : KFld K f (.ref a) H Q := ⟨a, C, dx, fs, v, rfl, e, c, n, l, h⟩
def KFldS (K : PySem.W.Frag) (f : Str) (y : V) (D : Ends) (σ : L2.St) (x : V) (H : Hp) : Prop := ∃ a C dx fs, x = V.ref a ∧ H a = some (.ins C dx fs) ∧ Cls K C ∧ NoAttr K C f ∧ fs.length < 1000 ∧ D.nx σ (upd H a (.ins C dx (putF f y fs)))
theorem s_fld (h : tv σ H fun y H1 => ta σ H1 fun x H2 => KFldS K f y D σ x H2) : sFld K ta tv f D σ H := h
theorem k_fldS (e : H a = some (.ins C dx fs)) (c : Cls K C) (n : NoAttr K C f) (l : fs.length < 1000) (h : ∀ H2, Chg a H H2 → H2 a = some (.ins C dx (putF f y fs)) → D.nx σ H2) : KFldS K f y D σ (.ref a) H := ⟨a, C, dx, fs, rfl, e, c, n, l, h _ chg_upd upd_same⟩
theorem s_fldaug {i : Nat} {j c : Int} (ev : σ[i]? = some (some (.ref a))) (e : H a = some (.ins C dx fs)) (cl : Cls K C) (n : NoAttr K C f) (l : fs.lookup f = some (.int j)) (sm : fs.length < 1000) (h : ∀ H2, Chg a H H2 → H2 a = some (.ins C dx (putF f (.int (j + c)) fs)) → D.nx σ H2) :
    sFldAug K (tVar i) (tC (.int c)) rAdd f D σ H := ⟨.ref a, ev, a, C, dx, fs, .int j, rfl, e, cl, n, l, j, c, rfl, rfl, dx, fs, e, sm, h _ chg_upd upd_same⟩
theorem l_tup {xs : List V} {lo hi : Option Int} (e : H a = some (.tup xs)) (nw : ¬ (HT.sIx xs.length 0 lo = 0 ∧ HT.sIx xs.length xs.length hi = xs.length)) (h : ∀ p H2, H p = none → Same H H2 → H2 p = some (.tup (cutV xs lo hi)) → Q (.ref p) H2) : rSlA K (.ref a) lo hi H Q :=
  ⟨a, xs, rfl, tup_of e, fun z => absurd z nw, fun _ => new_same h⟩
def rBool : List V → Hp → VK → Prop := fun xs H Q => (∃ i, xs = [.int i] ∧ Q (.bl (i != 0)) H) ∨ ∃ k, xs = [.bl k] ∧ Q (.bl k) H
theorem call_bool2 {X : Cx} : CallR X (.type "bool") rBool := call_bool1
theorem b_boolB {b : Bool} (h : Q (.bl b) H) : rBool [.bl b] H Q := .inr ⟨b, rfl, h⟩
theorem o_tup0 {x : V} {xs : List V} (e : H a = some (.tup (x :: xs))) (h : Q x H) : rIx K (.ref a) (.int 0) H Q := o_ixT (tup_of e) (atI_nat (j := 0) rfl) h
theorem o_tup1 {x y : V} {xs : List V} (e : H a = some (.tup (x :: y :: xs))) (h : Q y H) : rIx K (.ref a) (.int 1) H Q := o_ixT (tup_of e) (atI_nat (j := 1) rfl) h
def KMeth (C : Addr) (m : Str) (sp : Sp) (dvs : List V) (E : XK) (t : TA) (σ : L2.St) (x : V) (H : Hp) (Q : VK) : Prop := ∃ a dx fs, x = V.ref a ∧ H a = some (.ins C dx fs) ∧ fs.lookup m = none ∧ t σ H fun vs H2 => sp (x :: (vs ++ dvs)) H2 Q E
theorem e_meth (h : te σ H fun x H1 => KMeth C m sp dvs E tl σ x H1 Q) : tMeth C m sp dvs E te tl σ H Q := h
theorem k_meth (e : H a = some (.ins C dx fs)) (l : fs.lookup m = none) (h : tl σ H fun vs H2 => sp (.ref a :: (vs ++ dvs)) H2 Q E) : KMeth C m sp dvs E tl σ (.ref a) H Q := ⟨a, dx, fs, rfl, e, l, h⟩
def KMake (C : Addr) (sp : Sp) (dvs : List V) (E : XK) (vs : List V) (H1 : Hp) (Q : VK) : Prop := ∀ x dx, H1 x = none → H1 dx = none → dx ≠ x → sp (.ref x :: (vs ++ dvs)) (upd (upd H1 dx (.own x)) x (.ins C dx [])) (fun v H2 => v = .non ∧ Q (.ref x) H2) E
theorem e_make (h : tl σ H fun vs H1 => KMake C sp dvs E vs H1 Q) : tMake C sp dvs E tl σ H Q := h
theorem k_make {vs : List V} (h : ∀ x dx H2, H x = none → H dx = none → dx ≠ x → Same H H2 → H2 x = some (.ins C dx []) → H2 dx = some (.own x) → sp (.ref x :: (vs ++ dvs)) H2 (fun v H3 => v = .non ∧ Q (.ref x) H3) E) : KMake C sp dvs E vs H Q := fun x dx nx nd ne =>
  h x dx _ nx nd ne (fun b o e => by rw [upd_ne (ne_of_none e nx), upd_ne (ne_of_none e nd)]; exact e) upd_same (by rw [upd_ne ne]; exact upd_same)
end
section
variable {K : PySem.W.Frag} {H : Hp} {Q : VK} {a b : Addr} {xs ys : List V}
theorem o_catT (ha : H a = some (.tup xs)) (hb : H b = some (.tup ys)) (hz : xs.length + ys.length ≤ sizeLine) (h : ∀ p H2, Same H H2 → H2 p = some (.tup (xs ++ ys)) → Q (.ref p) H2) : rCatA K (.ref a) (.ref b) H Q := by
  refine ⟨a, b, xs, ys, rfl, rfl, tup_of ha, tup_of hb, hz, fun e => h _ _ (Same.refl _) ?_, fun _ e => h _ _ (Same.refl _) ?_, fun _ _ => new_same fun p H2 _ s e => h _ _ s e⟩
  · rw [e, List.nil_append]
    exact hb
  · rw [e, List.append_nil]
    exact ha
end
/-! ### walks of any kind -/
section
variable {K : PySem.W.Frag} {σ : L2.St} {H : Hp} {Q : VK} {D : Ends} {t : TS} {te : TE} {tt : TT} {g : TG} {vs : List Nat} {J : It} {n : Nat} {G : Hp → Prop} {Y : Nat → Hp → V → Hp → Prop} {tl : TA}
theorem f_it (w : Walk J n G Y) (Pv : Nat → L2.St → Hp → Prop) (h0 : Pv 0 σ H) (hG : ∀ i σ H, i ≤ n → Pv i σ H → G H)
    (hs : ∀ i x σ H H', i < n → Pv i σ H → Y i H x H' → g x σ H' fun σ2 H2 => t ⟨Pv (i + 1), D.rt, D.nx, Pv (i + 1)⟩ σ2 H2) (hd : ∀ σ H, Pv n σ H → D.nx σ H) : LoopF J g t D σ H := for_it w Pv h0 hG hs hd
/-- a comprehension: what is taken so far, kept while only the new list changes -/
theorem c_it (w : Walk J n G Y) (R : Addr → Nat → List V → Hp → Prop) (hG : ∀ H', Same H H' → G H') (hY : ∀ i H1 x H2, Y i H1 x H2 → Same H1 H2) (small : n < sizeLine) (len : ∀ D i acc H1, R D i acc H1 → acc.length ≤ i)
    (mono : ∀ D i acc H1 H2, Chg D H1 H2 → (∃ ys, H1 D = some (.lst ys)) → R D i acc H1 → R D i acc H2) (r0 : ∀ D H1, H D = none → Same H H1 → H1 D = some (.lst []) → R D 0 [] H1)
    (step : ∀ D i x H1 H2 acc (N : VK) (M : Hp → Prop), i < n → H D = none → Same H H1 → H1 D = some (.lst acc) → R D i acc H1 → Y i H1 x H2 → Same H1 H2 → (∀ y H3, Same H2 H3 → R D (i + 1) (acc ++ [y]) H3 → N y H3) → (∀ H3, Same H2 H3 → R D (i + 1) acc H3 → M H3) →
      g x (wipe σ vs) H2 fun σ2 H2 => wipe σ2 vs = wipe σ vs ∧ tt σ2 H2 fun b H3 => if b = true then te σ2 H3 N else M H3)
    (post : ∀ D H2 ys, H D = none → Same H H2 → H2 D = some (.lst ys) → R D n ys H2 → Q (.ref D) H2) : LoopC J g tt te vs σ H Q := by
  intro D nD
  refine lc_it w (fun i H1 => Same H H1 ∧ ∃ acc, H1 D = some (.lst acc) ∧ R D i acc H1) ⟨same_new nD, [], upd_same, r0 D _ nD (same_new nD) upd_same⟩ (fun i H1 _ p => hG _ p.1) (fun i x H1 H2 hi p y => ?_) (fun H1 ⟨s1, acc, e1, r1⟩ => post D H1 acc nD s1 e1 r1)
  obtain ⟨s1, acc, e1, r1⟩ := p
  have s2 := hY _ _ _ _ y
  refine step D i x H1 H2 acc _ _ hi nD s1 e1 r1 y s2 (fun y H3 s3 r3 => ?_) (fun H3 s3 r3 => ⟨s1.trans (s2.trans s3), acc, s3 _ _ (s2 _ _ e1), r3⟩)
  have e3 := s3 _ _ (s2 _ _ e1)
  refine ⟨acc, e3, by have := len D i acc H1 r1; omega, (chg_upd (p := D)).same (s1.trans (s2.trans s3)) nD, _, upd_same, mono D _ _ _ _ chg_upd ⟨_, e3⟩ r3⟩
theorem yat_same {xs : List V} {i : Nat} {H1 H2 : Hp} {x : V} (y : YAt xs i H1 x H2) : Same H1 H2 := by
  rw [y.1]
  exact Same.refl _
theorem ypair_same {f1 f2 : Nat → Option V} {i : Nat} {H1 H2 : Hp} {x : V} (y : YPair f1 f2 i H1 x H2) : Same H1 H2 := by
  obtain ⟨T, a, b, rfl, h, rfl, _⟩ := y
  exact same_new h
/-- new lists by place -/
theorem c_rows {lo : Int} {i : Nat} (F : Nat → List V) (hte : ∀ (j : Nat) H1 (N : VK), j < n → Same H H1 → (∀ r H3, Same H1 H3 → H1 r = none → H3 r = some (.lst (F j)) → N (.ref r) H3) → te ((wipe σ vs).set i (some (.int (lo + j)))) H1 N) (hz : n ≤ 100000) (hw : ∀ x, wipe ((wipe σ vs).set i (some x)) vs = wipe σ vs)
    (post : ∀ D H2 (rs : List Addr), H D = none → Same H H2 → H2 D = some (.lst (rs.map V.ref)) → rs.length = n → (∀ (j : Nat) (r : Addr), rs[j]? = some r → H r = none ∧ H2 r = some (.lst (F j))) → Q (.ref D) H2) : LoopC (Itr lo n) (gName i) tYes te vs σ H Q := by
  refine c_it (walk_range (lo := lo) (n := n)) (fun D i acc H4 => acc.length = i ∧ ∀ (j : Nat) (y : V), acc[j]? = some y → ∃ r, y = .ref r ∧ r ≠ D ∧ H r = none ∧ H4 r = some (.lst (F j))) (fun _ _ => True.intro) (fun i H1 x H2 y => by rw [y.1]; exact Same.refl _) (small1000' hz)
    (fun D i acc H1 o => Nat.le_of_eq o.1) (fun D i acc H5 H6 c ⟨ys, e⟩ o => ⟨o.1, fun j y g => ?_⟩) (fun D H4 nD s e => ⟨rfl, fun j y g => by cases g⟩) (fun D j xx H4 H5 acc N M' hi nD s4 eD o y s5 hN hM => ?_) (fun D H4 ys nD s4 e4 o => ?_)
  · obtain ⟨r, rfl, hr, hr0, f⟩ := o.2 j y g
    exact ⟨r, rfl, hr, hr0, c.at f hr⟩
  · obtain ⟨rfl, rfl⟩ := y
    refine g_name ⟨hw _, t_yes ?_⟩
    refine iteTT rfl (hte j _ _ hi s4 fun r H6 s6 n6 e6 => ?_)
    refine hN _ _ s6 ⟨by rw [List.length_append, o.1]; rfl, fun k y g => ?_⟩
    by_cases hj : k < acc.length
    · rw [List.getElem?_append_left hj] at g
      obtain ⟨r1, rfl, hr, hr0, f⟩ := o.2 k y g
      exact ⟨r1, rfl, hr, hr0, s6 _ _ f⟩
    · have hj2 := (List.getElem?_eq_some_iff.mp g).1
      rw [List.length_append, List.length_singleton] at hj2
      have : k = acc.length := by omega
      subst this
      rw [List.getElem?_append_right (Nat.le_refl _), Nat.sub_self] at g
      cases g
      refine ⟨r, rfl, fun e => ?_, s4.free n6, by rw [o.1]; exact e6⟩
      subst e
      rw [eD] at n6
      cases n6
  · obtain ⟨rs, rfl⟩ : ∃ rs : List Addr, ys = rs.map V.ref := by
      have : ∀ ys : List V, (∀ y ∈ ys, ∃ r, y = .ref r) → ∃ rs : List Addr, ys = rs.map V.ref := by
        intro ys
        induction ys with
        | nil => exact fun _ => ⟨[], rfl⟩
        | cons y r ih =>
          intro h
          obtain ⟨i, rfl⟩ := h y List.mem_cons_self
          obtain ⟨xs, rfl⟩ := ih fun z hz => h z (List.mem_cons_of_mem _ hz)
          exact ⟨i :: xs, rfl⟩
      exact this ys fun y hy => by
        obtain ⟨j, hj, e⟩ := List.getElem_of_mem hy
        obtain ⟨r, h, _⟩ := o.2 j y (by rw [List.getElem?_eq_getElem hj, e])
        exact ⟨r, h⟩
    have lr := o.1
    rw [List.length_map] at lr
    refine post D H4 rs nD s4 e4 lr fun j r g => ?_
    obtain ⟨r', h, _, h2, h3⟩ := o.2 j (.ref r) (by rw [List.getElem?_map, g]; rfl)
    cases h
    exact ⟨h2, h3⟩
theorem w_zip {R : It → Hp → Prop} (h : tl σ H fun vs H1 => ∃ a b xs ys, vs = [.ref a, .ref b] ∧ SqL K H1 a xs ∧ SqL K H1 b ys ∧ R (Itz K a b) H1) : iZip K tl σ H R := h
theorem w_enum {R : It → Hp → Prop} (h : tl σ H fun vs H1 => ∃ a xs, vs = [.ref a] ∧ SqL K H1 a xs ∧ R (Ite K a) H1) : iEnum K tl σ H R := h
end
end WO
local macro_rules | `(tactic| walk_at "x") => `(tactic| with_reducible first
  | refine WO.e_fld ?_ | refine WO.s_fld ?_ | refine WO.e_meth ?_ | refine WO.e_make ?_ | refine WC.a_star ?_ | refine WE.e_revL ?_ | (apply WE.k_rev; walk_at "hp"; intro _ _ _ _ _)
  | (apply WO.k_fld; walk_at "hp"; assumption; assumption; with_unfolding_all rfl)
  | (apply WO.k_meth; walk_at "hp"; with_unfolding_all rfl)
  | refine WO.b_boolB ?_ | (apply WO.o_tup0; walk_at "hp") | (apply WO.o_tup1; walk_at "hp") | refine WO.w_zip ?_ | refine WO.w_enum ?_)
/-! WT: tables of bounds. -/
namespace WT
open PySem PySem.Spec PyProof.Rows L2 Wy WN WQ WS WC
abbrev Cell := Option (Int × List Int)
def cellD : Cell → PyData
  | none => .none
  | some p => .tuple [.int p.1, iT p.2]
def joinC (a b : Int × List Int) : Int × List Int := (a.1 + b.1, a.2 ++ b.2)
def shorter (old : Cell) (th : Int × List Int) : Cell → Cell
  | none => old
  | some r => match old with
    | some o => if o.1 ≤ th.1 + r.1 then some o else some (joinC th r)
    | none => some (joinC th r)
theorem shorter_some {o th r : Int × List Int} : shorter (some o) th (some r) = if o.1 ≤ th.1 + r.1 then some o else some (joinC th r) := rfl
def rowStep (known : List Cell) (before : Cell) (step : Int × List Int) (behind : List Cell) : List Cell := match before with
  | none => known
  | some b => (known.zip behind).map fun p => shorter p.1 (joinC b step) p.2
abbrev Tab := List (List Cell)
def cell (M : Tab) (i j : Nat) : Cell := (M.getD i []).getD j none
def bring (M : Tab) (u v : Nat) (step : Int × List Int) : Tab := M.map fun known => rowStep known (known.getD u none) step (M.getD v [])
def Sq2 (M : Tab) (n : Nat) : Prop := M.length = n + 1 ∧ ∀ row ∈ M, row.length = n + 1
/-- the ring that a difference closes -/
def ringOf (M : Tab) (d : Df) : Option (List Int) := match cell M d.2.1.toNat d.1.toNat with
  | some b => if d.2.2 + b.1 < 0 then some b.2 else none
  | none => none
def tieM (M : Tab) (d : Df) (k : Nat) : Tab := match cell M d.1.toNat d.2.1.toNat with
  | some h => if d.2.2 < h.1 then bring M d.1.toNat d.2.1.toNat (d.2.2, [(k : Int)]) else M
  | none => bring M d.1.toNat d.2.1.toNat (d.2.2, [(k : Int)])
def tab0 (n : Nat) : Tab := (List.range (n + 1)).map fun u => (List.range (n + 1)).map fun v => if v = u then some (0, []) else none
theorem cell_at {M : Tab} {n i j : Nat} (h : Sq2 M n) (hi : i ≤ n) (hj : j ≤ n) : ∃ row, M[i]? = some row ∧ row[j]? = some (cell M i j) := by
  have h1 : i < M.length := by rw [h.1]; omega
  have h2 := h.2 _ (List.getElem_mem h1)
  refine ⟨M[i], List.getElem?_eq_getElem h1, ?_⟩
  unfold cell
  rw [List.getD_eq_getElem?_getD (l := M), List.getElem?_eq_getElem h1]
  show M[i][j]? = some (M[i].getD j none)
  rw [List.getD_eq_getElem?_getD, List.getElem?_eq_getElem (by omega)]
  rfl
theorem row_of {M : Tab} {n i : Nat} (h : Sq2 M n) (hi : i ≤ n) : M[i]? = some (M.getD i []) := by
  have h1 : i < M.length := by rw [h.1]; omega
  rw [List.getD_eq_getElem?_getD, List.getElem?_eq_getElem h1]
  rfl
theorem tab0_sq (n : Nat) : Sq2 (tab0 n) n := by
  refine ⟨by simp [tab0], fun row hr => ?_⟩
  obtain ⟨u, _, rfl⟩ := List.mem_map.mp hr
  simp
theorem tab0_cell {n i j : Nat} (hi : i ≤ n) (hj : j ≤ n) : cell (tab0 n) i j = if j = i then some (0, []) else none := by
  unfold cell tab0
  rw [List.getD_eq_getElem?_getD (l := List.map _ _) (i := i), List.getElem?_map, List.getElem?_range (by omega)]
  show ((List.range (n + 1)).map _).getD j none = _
  rw [List.getD_eq_getElem?_getD, List.getElem?_map, List.getElem?_range (by omega)]
  rfl
theorem rowStep_len {known behind : List Cell} {before : Cell} {step : Int × List Int} (h : known.length = behind.length) : (rowStep known before step behind).length = known.length := by
  unfold rowStep
  cases before with
  | none => rfl
  | some b => simp; omega
theorem bring_sq {M : Tab} {n u v : Nat} {step : Int × List Int} (h : Sq2 M n) (hv : v ≤ n) : Sq2 (bring M u v step) n := by
  refine ⟨by unfold bring; rw [List.length_map]; exact h.1, fun row hr => ?_⟩
  obtain ⟨known, hk, rfl⟩ := List.mem_map.mp hr
  have h1 := h.2 _ hk
  have h2 := h.2 _ (List.mem_of_getElem? (row_of h hv))
  rw [rowStep_len (by omega)]
  exact h1
theorem bring_cell {M : Tab} {n u v i j : Nat} {step : Int × List Int} (h : Sq2 M n) (hu : u ≤ n) (hv : v ≤ n) (hi : i ≤ n) (hj : j ≤ n) :
    cell (bring M u v step) i j = match cell M i u with | none => cell M i j | some b => shorter (cell M i j) (joinC b step) (cell M v j) := by
  obtain ⟨row, g1, g2⟩ := cell_at h hi hj
  obtain ⟨_, g3, g4⟩ := cell_at h hi hu
  obtain ⟨rv, g5, g6⟩ := cell_at h hv hj
  rw [g1] at g3
  cases g3
  have gu : row.getD u none = cell M i u := by rw [List.getD_eq_getElem?_getD, g4]; rfl
  have ge : (bring M u v step)[i]? = some (rowStep row (cell M i u) step rv) := by
    unfold bring
    rw [List.getElem?_map, g1, List.getD_eq_getElem?_getD (l := M), g5]
    show some (rowStep row (row.getD u none) step rv) = _
    rw [gu]
  unfold cell
  rw [List.getD_eq_getElem?_getD (l := bring M u v step), ge]
  show (rowStep row (cell M i u) step rv).getD j none = _
  show _ = match cell M i u with | none => cell M i j | some b => shorter (cell M i j) (joinC b step) (cell M v j)
  unfold rowStep
  cases cell M i u with
  | none =>
    show row.getD j none = _
    rw [List.getD_eq_getElem?_getD, g2]
    rfl
  | some b =>
    show ((row.zip rv).map _).getD j none = _
    rw [List.getD_eq_getElem?_getD, List.getElem?_map, show (row.zip rv)[j]? = some (cell M i j, cell M v j) from List.getElem?_zip_eq_some.mpr ⟨g2, g6⟩]
    rfl
/-! ### bounds alone -/
def relax (b x : Option Int) (c : Int) (y : Option Int) : Option Int := match x, y with
  | some x, some y => (match b with
    | some o => if o ≤ x + c + y then some o else some (x + c + y)
    | none => some (x + c + y))
  | _, _ => b
abbrev bd (M : Tab) (i j : Nat) : Option Int := (cell M i j).map (·.1)
theorem bring_bd {M : Tab} {n u v i j : Nat} {step : Int × List Int} (h : Sq2 M n) (hu : u ≤ n) (hv : v ≤ n) (hi : i ≤ n) (hj : j ≤ n) : bd (bring M u v step) i j = relax (bd M i j) (bd M i u) step.1 (bd M v j) := by
  unfold bd
  rw [bring_cell h hu hv hi hj]
  cases cell M i u with
  | none => rfl
  | some b =>
    cases cell M v j with
    | none => cases cell M i j <;> rfl
    | some r =>
      cases cell M i j with
      | none => rfl
      | some o =>
        show (shorter (some o) (joinC b step) (some r)).map _ = (if o.1 ≤ b.1 + step.1 + r.1 then _ else _)
        show (shorter (some o) (joinC b step) (some r)).map _ = (if o.1 ≤ (joinC b step).1 + r.1 then some o.1 else some ((joinC b step).1 + r.1))
        rw [shorter_some]
        by_cases q : o.1 ≤ (joinC b step).1 + r.1
        · rw [if_pos q, if_pos q]
          rfl
        · rw [if_neg q, if_neg q]
          rfl
/-- closed: the ground of all bounds -/
structure Cl (n : Nat) (B : Nat → Nat → Option Int) : Prop where
  diag : ∀ i, i ≤ n → B i i = some 0
  tri : ∀ i k j x y, i ≤ n → k ≤ n → j ≤ n → B i k = some x → B k j = some y → ∃ z, B i j = some z ∧ z ≤ x + y
theorem relax_le {b x y : Option Int} {c z : Int} (h : relax b x c y = some z) : b = some z ∨ ∃ p q, x = some p ∧ y = some q ∧ z = p + c + q := by
  unfold relax at h
  cases x with
  | none => exact .inl h
  | some p =>
    cases y with
    | none => exact .inl h
    | some q =>
      cases b with
      | none => exact .inr ⟨p, q, rfl, rfl, (Option.some.inj h).symm⟩
      | some o =>
        have h : (if o ≤ p + c + q then some o else some (p + c + q)) = some z := h
        split at h
        · exact .inl h
        · exact .inr ⟨p, q, rfl, rfl, (Option.some.inj h).symm⟩
theorem relax_old {x y : Option Int} {c o : Int} : ∃ z, relax (some o) x c y = some z ∧ z ≤ o := by
  unfold relax
  cases x with
  | none => exact ⟨o, rfl, Int.le_refl _⟩
  | some p =>
    cases y with
    | none => exact ⟨o, rfl, Int.le_refl _⟩
    | some q =>
      show ∃ z, (if o ≤ p + c + q then some o else some (p + c + q)) = some z ∧ z ≤ o
      split
      · exact ⟨o, rfl, Int.le_refl _⟩
      · exact ⟨_, rfl, by omega⟩
theorem relax_new {b : Option Int} {c p q : Int} : ∃ z, relax b (some p) c (some q) = some z ∧ z ≤ p + c + q := by
  unfold relax
  cases b with
  | none => exact ⟨_, rfl, Int.le_refl _⟩
  | some o =>
    show ∃ z, (if o ≤ p + c + q then some o else some (p + c + q)) = some z ∧ z ≤ p + c + q
    split
    · exact ⟨o, rfl, by assumption⟩
    · exact ⟨_, rfl, Int.le_refl _⟩
/-- a path by old bounds, made shorter -/
theorem Cl.relax {n u v : Nat} {c : Int} {B : Nat → Nat → Option Int} (h : Cl n B) (hu : u ≤ n) (hv : v ≤ n) (hc : ∀ b, B v u = some b → 0 ≤ c + b) : Cl n fun i j => WT.relax (B i j) (B i u) c (B v j) := by
  refine ⟨fun i hi => ?_, fun i k j x y hi hk hj hx hy => ?_⟩
  · obtain ⟨z, e, le⟩ := relax_old (x := B i u) (y := B v i) (c := c) (o := 0)
    show WT.relax (B i i) _ _ _ = _
    rw [h.diag i hi]
    rcases relax_le e with e2 | ⟨p, q, e2, e3, e4⟩
    · rw [e]
      exact e2.symm
    · obtain ⟨b, e5, le2⟩ := h.tri v i u q p hv hi hu e3 e2
      have := hc b e5
      rw [e]
      exact congrArg some (by omega)
  · show ∃ z, WT.relax (B i j) (B i u) c (B v j) = some z ∧ _
    rcases relax_le hx with e1 | ⟨p, q, e1, e2, e3⟩ <;> rcases relax_le hy with f1 | ⟨p', q', f1, f2, f3⟩
    · obtain ⟨z, g1, g2⟩ := h.tri i k j x y hi hk hj e1 f1
      rw [g1]
      obtain ⟨z', g3, g4⟩ := relax_old (x := B i u) (y := B v j) (c := c) (o := z)
      exact ⟨z', g3, by omega⟩
    · obtain ⟨a, g1, g2⟩ := h.tri i k u x p' hi hk hu e1 f1
      rw [g1, f2]
      obtain ⟨z', g3, g4⟩ := relax_new (b := B i j) (c := c) (p := a) (q := q')
      exact ⟨z', g3, by omega⟩
    · obtain ⟨a, g1, g2⟩ := h.tri v k j q y hv hk hj e2 f1
      rw [g1, e1]
      obtain ⟨z', g3, g4⟩ := relax_new (b := B i j) (c := c) (p := p) (q := a)
      exact ⟨z', g3, by omega⟩
    · obtain ⟨b, g1, g2⟩ := h.tri v k u q p' hv hk hu e2 f1
      have := hc b g1
      rw [e1, f2]
      obtain ⟨z', g3, g4⟩ := relax_new (b := B i j) (c := c) (p := p) (q := q')
      exact ⟨z', g3, by omega⟩
/-- what is not shorter brings nothing -/
theorem Cl.idle {n u v i j : Nat} {c g : Int} {B : Nat → Nat → Option Int} (h : Cl n B) (hu : u ≤ n) (hv : v ≤ n) (hi : i ≤ n) (hj : j ≤ n) (hg : B u v = some g) (hc : g ≤ c) : WT.relax (B i j) (B i u) c (B v j) = B i j := by
  unfold WT.relax
  cases e1 : B i u with
  | none => rfl
  | some p =>
    cases e2 : B v j with
    | none => rfl
    | some q =>
      obtain ⟨a, f1, f2⟩ := h.tri i u v p g hi hu hv e1 hg
      obtain ⟨z, f3, f4⟩ := h.tri i v j a q hi hv hj f1 e2
      rw [f3]
      show (if z ≤ p + c + q then some z else _) = _
      rw [if_pos (by omega)]
theorem tie_bd {M : Tab} {n i j k : Nat} {d : Df} (h : Sq2 M n) (hc : Cl n (bd M)) (hd : InR n d) (hi : i ≤ n) (hj : j ≤ n) : bd (tieM M d k) i j = relax (bd M i j) (bd M i d.1.toNat) d.2.2 (bd M d.2.1.toNat j) := by
  obtain ⟨h0, h1, h2, h3⟩ := hd
  have hu : d.1.toNat ≤ n := by omega
  have hv : d.2.1.toNat ≤ n := by omega
  unfold tieM
  cases e : cell M d.1.toNat d.2.1.toNat with
  | none => exact bring_bd h hu hv hi hj
  | some g =>
    show bd (if d.2.2 < g.1 then _ else M) i j = _
    split
    · exact bring_bd h hu hv hi hj
    · exact (hc.idle hu hv hi hj (g := g.1) (by show (cell M _ _).map _ = _; rw [e]; rfl) (by omega)).symm
theorem tie_sq {M : Tab} {n k : Nat} {d : Df} (h : Sq2 M n) (hd : InR n d) : Sq2 (tieM M d k) n := by
  obtain ⟨h0, h1, h2, h3⟩ := hd
  unfold tieM
  cases e : cell M d.1.toNat d.2.1.toNat with
  | none => exact bring_sq h (by omega)
  | some g =>
    show Sq2 (if d.2.2 < g.1 then _ else M) n
    split
    · exact bring_sq h (by omega)
    · exact h
theorem ring_none {M : Tab} {d : Df} (h : ringOf M d = none) : ∀ b, bd M d.2.1.toNat d.1.toNat = some b → 0 ≤ d.2.2 + b := by
  intro b hb
  unfold bd at hb
  unfold ringOf at h
  cases e : cell M d.2.1.toNat d.1.toNat with
  | none =>
    rw [e] at hb
    cases hb
  | some g =>
    rw [e] at hb h
    have hb : g.1 = b := Option.some.inj hb
    have h : (if d.2.2 + g.1 < 0 then some g.2 else none) = none := h
    split at h
    · cases h
    · omega
/-- lengths -/
def Short (M : Tab) (L : Nat) : Prop := ∀ row ∈ M, ∀ c, some c ∈ row → c.2.length ≤ L
theorem shorter_len {L : Nat} {old rest : Cell} {th : Int × List Int} {c : Int × List Int} (h1 : ∀ c, old = some c → c.2.length ≤ L) (h2 : ∀ r, rest = some r → th.2.length + r.2.length ≤ L) (h : shorter old th rest = some c) : c.2.length ≤ L := by
  unfold shorter at h
  cases rest with
  | none => exact h1 c h
  | some r =>
    have := h2 r rfl
    cases old with
    | none =>
      cases h
      simp only [joinC, List.length_append]
      omega
    | some o =>
      have h : (if o.1 ≤ th.1 + r.1 then some o else some (joinC th r)) = some c := h
      split at h
      · exact h1 c h
      · cases h
        simp only [joinC, List.length_append]
        omega
theorem bring_short {M : Tab} {u v : Nat} {c k : Int} {L : Nat} (h : Short M L) : Short (bring M u v (c, [k])) (2 * L + 1) := by
  intro row hr x hx
  obtain ⟨known, hk, rfl⟩ := List.mem_map.mp hr
  unfold rowStep at hx
  cases e : known.getD u none with
  | none =>
    rw [e] at hx
    have := h known hk x hx
    omega
  | some b =>
    rw [e] at hx
    have hb : b.2.length ≤ L := h known hk b (by
      rw [List.getD_eq_getElem?_getD] at e
      cases e2 : known[u]? with
      | none =>
        rw [e2] at e
        cases e
      | some y =>
        rw [e2] at e
        have e : y = some b := e
        rw [← e]
        exact List.mem_of_getElem? e2)
    obtain ⟨⟨o, r⟩, hp, e2⟩ := List.mem_map.mp hx
    have ho := (List.of_mem_zip hp).1
    have hr := (List.of_mem_zip hp).2
    refine shorter_len (fun c hc => ?_) (fun c hc => ?_) e2
    · have := h known hk c (hc ▸ ho)
      omega
    · have hm : M.getD v [] ∈ M := by
        rw [List.getD_eq_getElem?_getD] at hr ⊢
        cases e3 : M[v]? with
        | none =>
          rw [e3] at hr
          cases hr
        | some y => exact List.mem_of_getElem? e3
      have := h _ hm c (hc ▸ hr)
      simp only [joinC, List.length_append, List.length_singleton]
      omega
theorem tie_short {M : Tab} {d : Df} {k L : Nat} (h : Short M L) : Short (tieM M d k) (2 * L + 1) := by
  have h' : Short M (2 * L + 1) := fun r hr c hc => by have := h r hr c hc; omega
  unfold tieM
  cases e : cell M d.1.toNat d.2.1.toNat with
  | none => exact bring_short h
  | some g =>
    show Short (if d.2.2 < g.1 then _ else M) _
    split
    · exact bring_short h
    · exact h'
/-! ### a System in the heap -/
structure Spot where
  dx : Addr
  dl : Addr
  tp : Addr
  rs : List Addr
def RowAt (H : Hp) (r : Addr) (row : List Cell) : Prop := ∃ cs, H r = some (.lst cs) ∧ TpAll H cs (row.map cellD)
abbrev sysFs (S : Spot) (n : Nat) : List (Str × V) := [("many", .int n), ("differences", .ref S.dl), ("_table", .ref S.tp)]
structure SysAt (K : PySem.W.Frag) (H : Hp) (x : Addr) (S : Spot) (n : Nat) (ds : List Df) (M : Tab) : Prop where
  ins : H x = some (.ins (He.ga K "System") S.dx (sysFs S n))
  diffs : ∃ us, H S.dl = some (.lst us) ∧ TpAll H us (ds.map dfD)
  tab : H S.tp = some (.lst (S.rs.map V.ref))
  len : S.rs.length = M.length
  rows : ∀ (i : Nat) (r : Addr) (row : List Cell), S.rs[i]? = some r → M[i]? = some row → RowAt H r row
  ap1 : S.dl ∉ S.rs
  ap2 : S.dl ≠ S.tp
  sq : Sq2 M n
/-- what stands, but for some places -/
def KeepBut (A : List Addr) (H H' : Hp) : Prop := ∀ b o, b ∉ A → H b = some o → H' b = some o
theorem KeepBut.refl {A : List Addr} {H : Hp} : KeepBut A H H := fun _ _ _ e => e
theorem KeepBut.trans {A : List Addr} {H H1 H2 : Hp} (h : KeepBut A H H1) (k : KeepBut A H1 H2) : KeepBut A H H2 := fun b o n e => k b o n (h b o n e)
theorem Same.but {A : List Addr} {H H1 : Hp} (s : Same H H1) : KeepBut A H H1 := fun b o _ e => s b o e
theorem Chg.but {A : List Addr} {p : Addr} {H H1 : Hp} (c : Chg p H H1) (h : p ∈ A) : KeepBut A H H1 := fun b o n e => c.at e (fun q => n (q ▸ h))
theorem KeepBut.mono {A B : List Addr} {H H1 : Hp} (h : KeepBut A H H1) (s : ∀ a ∈ A, a ∈ B) : KeepBut B H H1 := fun b o n e => h b o (fun q => n (s b q)) e
/-- not a tuple -/
def noTup : HO → Bool
  | .tup _ => false
  | _ => true
theorem KeepBut.tk {A : List Addr} {H H1 : Hp} (h : KeepBut A H H1) (ht : ∀ a ∈ A, ∃ o, H a = some o ∧ noTup o = true) : TK H H1 := fun a xs e => h a _ (fun q => by
  obtain ⟨o, e2, n⟩ := ht a q
  rw [e] at e2
  cases e2
  cases n) e
theorem SysAt.keep {K : PySem.W.Frag} {H H' : Hp} {x : Addr} {S : Spot} {n : Nat} {ds : List Df} {M : Tab} (s : SysAt K H x S n ds M) {A : List Addr} (k : KeepBut A H H') (tk : TK H H') (h1 : x ∉ A) (h2 : S.dl ∉ A) (h3 : S.tp ∉ A) (h4 : ∀ r ∈ S.rs, r ∉ A) : SysAt K H' x S n ds M := by
  obtain ⟨us, e1, t1⟩ := s.diffs
  refine ⟨k _ _ h1 s.ins, ⟨us, k _ _ h2 e1, t1.tk tk⟩, k _ _ h3 s.tab, s.len, fun i r row hr hm => ?_, s.ap1, s.ap2, s.sq⟩
  obtain ⟨cs, e2, t2⟩ := s.rows i r row hr hm
  exact ⟨cs, k _ _ (h4 r (List.mem_of_getElem? hr)) e2, t2.tk tk⟩
theorem SysAt.same {K : PySem.W.Frag} {H H' : Hp} {x : Addr} {S : Spot} {n : Nat} {ds : List Df} {M : Tab} (s : SysAt K H x S n ds M) (k : Same H H') : SysAt K H' x S n ds M :=
  s.keep (A := []) (Same.but k) k.tk (by simp) (by simp) (by simp) (by simp)
theorem SysAt.get {K : PySem.W.Frag} {H : Hp} {x : Addr} {S : Spot} {n : Nat} {ds : List Df} {M : Tab} (s : SysAt K H x S n ds M) {u : Nat} (hu : u ≤ n) : ∃ r cs, S.rs[u]? = some r ∧ H r = some (.lst cs) ∧ TpAll H cs ((M.getD u []).map cellD) ∧ cs.length = n + 1 := by
  have hm := row_of s.sq hu
  have hl := s.sq.2 _ (List.mem_of_getElem? hm)
  have h1 : u < S.rs.length := by rw [s.len, s.sq.1]; omega
  obtain ⟨cs, e, t⟩ := s.rows u S.rs[u] _ (List.getElem?_eq_getElem h1) hm
  refine ⟨_, cs, List.getElem?_eq_getElem h1, e, t, ?_⟩
  rw [t.length, List.length_map]
  exact hl
theorem row_cell {H : Hp} {M : Tab} {n u v : Nat} {cs : List V} (hq : Sq2 M n) (hu : u ≤ n) (hv : v ≤ n) (t : TpAll H cs ((M.getD u []).map cellD)) : ∃ y, cs[v]? = some y ∧ Tp H y (cellD (cell M u v)) := by
  obtain ⟨row, g1, g2⟩ := cell_at hq hu hv
  have : M.getD u [] = row := by rw [List.getD_eq_getElem?_getD, g1]; rfl
  rw [this] at t
  exact tpAt t g2
theorem cellN {H : Hp} {y : V} {c : Cell} (t : Tp H y (cellD c)) (e : c = none) : y = .non := by
  subst e
  cases t
  rfl
theorem cellS {H : Hp} {y : V} {c : Cell} {p : Int × List Int} (t : Tp H y (cellD c)) (e : c = some p) : ∃ a b, y = .ref a ∧ H a = some (.tup [.int p.1, .ref b]) ∧ H b = some (.tup (p.2.map V.int)) := by
  subst e
  obtain ⟨a, v1, v2, rfl, e, t1, t2⟩ := WQ.tp2 (show Tp H y (.tuple [.int p.1, iT p.2]) from t)
  cases t1
  obtain ⟨b, rfl, e2⟩ := tpI t2
  exact ⟨a, b, rfl, e, e2⟩
theorem cellT {H : Hp} {a b : Addr} {p : Int × List Int} (e : H a = some (.tup [.int p.1, .ref b])) (e2 : H b = some (.tup (p.2.map V.int))) : Tp H (.ref a) (cellD (some p)) := .tup e (.cons (.int _) (.cons (iT_tp e2) .nil))
theorem refs_of {ys : List V} (h : ∀ (j : Nat) (y : V), ys[j]? = some y → ∃ r, y = .ref r) : ∃ rs : List Addr, ys = rs.map V.ref := by
  have : ∀ ys : List V, (∀ y ∈ ys, ∃ r, y = .ref r) → ∃ rs : List Addr, ys = rs.map V.ref := by
    intro ys
    induction ys with
    | nil => exact fun _ => ⟨[], rfl⟩
    | cons y r ih =>
      intro h
      obtain ⟨i, rfl⟩ := h y List.mem_cons_self
      obtain ⟨xs, rfl⟩ := ih fun z hz => h z (List.mem_cons_of_mem _ hz)
      exact ⟨i :: xs, rfl⟩
  refine this ys fun y hy => ?_
  obtain ⟨j, hj, e⟩ := List.getElem_of_mem hy
  exact h j y (by rw [List.getElem?_eq_getElem hj, e])
/-! ### promises -/
section
variable {K : PySem.W.Frag}
def spSysInit (K : PySem.W.Frag) : Sp := fun vs H Q _ => ∃ (x dx : Addr) (n : Nat), vs = [.ref x, .int n] ∧ H x = some (.ins (He.ga K "System") dx []) ∧ n ≤ 1000 ∧
  ∀ H' S, KeepBut [x] H H' → SysAt K H' x S n [] (tab0 n) → S.dx = dx → H S.dl = none → H S.tp = none → (∀ r ∈ S.rs, H r = none) → Q .non H'
def spBound (K : PySem.W.Frag) : Sp := fun vs H Q _ => ∃ (x : Addr) (S : Spot) (n : Nat) (ds : List Df) (M : Tab) (u v : Int), vs = [.ref x, .int u, .int v] ∧ SysAt K H x S n ds M ∧ 0 ≤ u ∧ u ≤ n ∧ 0 ≤ v ∧ v ≤ n ∧ Q (oI (bd M u.toNat v.toNat)) H
def spTie (K : PySem.W.Frag) : Sp := fun vs H Q _ => ∃ (x : Addr) (d : V) (S : Spot) (n : Nat) (ds : List Df) (M : Tab) (df : Df) (L : Nat), vs = [.ref x, d] ∧ SysAt K H x S n ds M ∧ Tp H d (dfD df) ∧ InR n df ∧ ds.length ≤ 1000 ∧ n ≤ 1000 ∧ Short M L ∧ 2 * L + 1 ≤ 5000000 ∧
  (∀ bs, ringOf M df = some bs → ∀ p H', KeepBut [S.dl] H H' → H p = none → H' p = some (.tup (((ds.length : Int) :: bs).map V.int)) → Q (.ref p) H') ∧
  (ringOf M df = none → ∀ H' S', KeepBut [x, S.dl] H H' → SysAt K H' x S' n (ds ++ [df]) (tieM M df ds.length) → S'.dx = S.dx → S'.dl = S.dl → (S'.tp = S.tp ∨ H S'.tp = none) → (∀ r ∈ S'.rs, r ∈ S.rs ∨ H r = none) → Q .non H')
def spBring (K : PySem.W.Frag) : Sp := fun vs H Q _ => ∃ (x st : Addr) (S : Spot) (n : Nat) (ds : List Df) (M : Tab) (u v : Int) (p : Int × List Int) (L : Nat), vs = [.ref x, .int u, .int v, .ref st] ∧ SysAt K H x S n ds M ∧ Tp H (.ref st) (cellD (some p)) ∧ 0 ≤ u ∧ u ≤ n ∧ 0 ≤ v ∧ v ≤ n ∧ n ≤ 1000 ∧ Short M L ∧ 2 * L + p.2.length ≤ 5000000 ∧
  ∀ H' S', KeepBut [x] H H' → SysAt K H' x S' n ds (bring M u.toNat v.toNat p) → S'.dx = S.dx → S'.dl = S.dl → H S'.tp = none → (∀ r ∈ S'.rs, r ∈ S.rs ∨ H r = none) → Q .non H'
def spRowS (K : PySem.W.Frag) : Sp := fun vs H Q _ => ∃ (r bh : Addr) (bf st : V) (cs ks : List V) (row behind : List Cell) (before : Cell) (p : Int × List Int) (L : Nat), vs = [.ref r, bf, st, .ref bh] ∧ H r = some (.lst cs) ∧ TpAll H cs (row.map cellD) ∧ Tp H bf (cellD before) ∧ Tp H st (cellD (some p)) ∧
  H bh = some (.lst ks) ∧ TpAll H ks (behind.map cellD) ∧ row.length = behind.length ∧ row.length ≤ 2000 ∧ (∀ c, before = some c → c.2.length ≤ L) ∧ (∀ c, some c ∈ behind → c.2.length ≤ L) ∧ 2 * L + p.2.length ≤ 5000000 ∧
  ∀ q H' cs', Same H H' → H' q = some (.lst cs') → TpAll H' cs' ((rowStep row before p behind).map cellD) → (q = r ∨ H q = none) → Q (.ref q) H'
def spJoin (K : PySem.W.Frag) : Sp := fun vs H Q _ => ∃ (x y : V) (a b : Int × List Int), vs = [x, y] ∧ Tp H x (cellD (some a)) ∧ Tp H y (cellD (some b)) ∧ a.2.length + b.2.length ≤ 6000000 ∧ ∀ p H', Same H H' → Tp H' p (cellD (some (joinC a b))) → Q p H'
def spShorter (K : PySem.W.Frag) : Sp := fun vs H Q _ => ∃ (x y z : V) (old rest : Cell) (a : Int × List Int), vs = [x, y, z] ∧ Tp H x (cellD old) ∧ Tp H y (cellD (some a)) ∧ Tp H z (cellD rest) ∧ (∀ c, rest = some c → a.2.length + c.2.length ≤ 6000000) ∧ ∀ p H', Same H H' → Tp H' p (cellD (shorter old a rest)) → Q p H'
def spRaised (K : PySem.W.Frag) : Sp := fun vs H Q _ => ∃ (a b e : Addr) (zs : List Int) (us : List V) (ds : List Df) (vals : List Int), vs = [.ref a, .ref b, .ref e] ∧ SqL K H a (zs.map V.int) ∧ H b = some (.lst us) ∧ TpAll H us (ds.map dfD) ∧ H e = some (.lst (vals.map V.int)) ∧ (∀ d ∈ ds, InR vals.length d) ∧ ds.length ≤ 900 ∧ vals.length ≤ 900 ∧
  ∀ p H' us' ds', Same H H' → H p = none → H' p = some (.lst us') → TpAll H' us' ((ds' : List Df).map dfD) → ds'.length = ds.length → (∀ d ∈ ds', InR vals.length d) → Q (.ref p) H'
/-! ### matrices of bounds -/
structure MatAt (H : Hp) (p : Addr) (rs : List Addr) (n : Nat) (B : Nat → Nat → Option Int) : Prop where
  tab : H p = some (.lst (rs.map V.ref))
  len : rs.length = n + 1
  rows : ∀ (i : Nat) (r : Addr), rs[i]? = some r → H r = some (.lst ((List.range (n + 1)).map fun j => oI (B i j)))
theorem MatAt.same {H H' : Hp} {p : Addr} {rs : List Addr} {n : Nat} {B : Nat → Nat → Option Int} (m : MatAt H p rs n B) (s : Same H H') : MatAt H' p rs n B := ⟨s _ _ m.tab, m.len, fun i r g => s _ _ (m.rows i r g)⟩
theorem MatAt.keep {H H' : Hp} {p : Addr} {rs : List Addr} {n : Nat} {B : Nat → Nat → Option Int} (m : MatAt H p rs n B) {A : List Addr} (k : KeepBut A H H') (h1 : p ∉ A) (h2 : ∀ r ∈ rs, r ∉ A) : MatAt H' p rs n B := ⟨k _ _ h1 m.tab, m.len, fun i r g => k _ _ (h2 r (List.mem_of_getElem? g)) (m.rows i r g)⟩
theorem MatAt.cong {H : Hp} {p : Addr} {rs : List Addr} {n : Nat} {B B' : Nat → Nat → Option Int} (m : MatAt H p rs n B) (h : ∀ i j, i ≤ n → j ≤ n → B i j = B' i j) : MatAt H p rs n B' := ⟨m.tab, m.len, fun i r g => by
  have hi := (List.getElem?_eq_some_iff.mp g).1
  have hl := m.len
  rw [m.rows i r g]
  refine congrArg (fun z => some (HO.lst z)) (List.map_congr_left fun j hj => ?_)
  rw [h i j (by omega) (by have := List.mem_range.mp hj; omega)]⟩
theorem ix_mat {K : PySem.W.Frag} {H : Hp} {Q : VK} {p : Addr} {rs : List Addr} {n : Nat} {B : Nat → Nat → Option Int} (m : MatAt H p rs n B) {i : Int} (h0 : 0 ≤ i) (h1 : i ≤ n) (h : ∀ r, rs[i.toNat]? = some r → H r = some (.lst ((List.range (n + 1)).map fun j => oI (B i.toNat j))) → Q (.ref r) H) : rIx K (.ref p) (.int i) H Q := by
  have hl := m.len
  have g := List.getElem?_eq_getElem (l := rs) (i := i.toNat) (by omega)
  exact o_ixL (lst_of m.tab) (atI_of (j := i.toNat) (by omega) (v := .ref rs[i.toNat]) (by rw [List.getElem?_map, g]; rfl)) (h _ g (m.rows _ _ g))
theorem ix_row {K : PySem.W.Frag} {H : Hp} {Q : VK} {r : Addr} {n : Nat} {F : Nat → Option Int} (e : H r = some (.lst ((List.range (n + 1)).map fun j => oI (F j)))) {i : Int} (h0 : 0 ≤ i) (h1 : i ≤ n) (h : Q (oI (F i.toNat)) H) : rIx K (.ref r) (.int i) H Q :=
  o_ixL (lst_of e) (atI_of (j := i.toNat) (by omega) (by rw [List.getElem?_map, List.getElem?_range (by omega)]; rfl)) h
theorem mat_of {H : Hp} {p : Addr} {rs : List Addr} {n : Nat} {B : Nat → Nat → Option Int} (e : H p = some (.lst (rs.map V.ref))) (l : rs.length = n + 1) (h : ∀ (i : Nat) (r : Addr), rs[i]? = some r → H r = some (.lst ((List.range (n + 1)).map fun j => oI (B i j)))) : MatAt H p rs n B := ⟨e, l, h⟩
theorem tab0_bd {n i j : Nat} (hi : i ≤ n) (hj : j ≤ n) : bd (tab0 n) i j = if i = j then some 0 else none := by
  unfold bd
  rw [tab0_cell hi hj]
  by_cases h : i = j
  · rw [if_pos h, if_pos h.symm]
    rfl
  · rw [if_neg h, if_neg (fun e => h e.symm)]
    rfl
theorem tab0_cl (n : Nat) : Cl n (bd (tab0 n)) := ⟨fun i hi => by rw [tab0_bd hi hi, if_pos rfl], fun i k j x y hi hk hj hx hy => by
  rw [tab0_bd hi hk] at hx
  rw [tab0_bd hk hj] at hy
  split at hx
  · split at hy
    · cases hx
      cases hy
      refine ⟨0, ?_, by omega⟩
      rw [tab0_bd hi hj, if_pos (by omega)]
    · cases hy
  · cases hx⟩
theorem tab0_short (n : Nat) : Short (tab0 n) 0 := fun row hr c hc => by
  obtain ⟨u, _, rfl⟩ := List.mem_map.mp hr
  obtain ⟨v, _, e⟩ := List.mem_map.mp hc
  split at e
  · cases e
    exact Nat.le_refl _
  · cases e
theorem tie_cl {M : Tab} {n k : Nat} {d : Df} (h : Sq2 M n) (hc : Cl n (bd M)) (hd : InR n d) (hr : ringOf M d = none) : Cl n (bd (tieM M d k)) := by
  have := hc.relax (u := d.1.toNat) (v := d.2.1.toNat) (c := d.2.2) (by have := hd.2.1; omega) (by have := hd.2.2.2; omega) (ring_none hr)
  exact ⟨fun i hi => by rw [tie_bd h hc hd hi hi]; exact this.diag i hi, fun i k j x y hi hk hj hx hy => by
    rw [tie_bd h hc hd hi hk] at hx
    rw [tie_bd h hc hd hk hj] at hy
    rw [tie_bd h hc hd hi hj]
    exact this.tri i k j x y hi hk hj hx hy⟩
def spJoinM : Sp := fun vs H Q _ => ∃ (a : Addr) (d : V) (rs : List Addr) (n : Nat) (B : Nat → Nat → Option Int) (df : Df), vs = [.ref a, d] ∧ MatAt H a rs n B ∧ Tp H d (dfD df) ∧ InR n df ∧ n ≤ 1000 ∧
  ∀ p H' rs', Same H H' → H p = none → (∀ r ∈ rs', H r = none) → MatAt H' p rs' n (fun i j => relax (B i j) (B i df.1.toNat) df.2.2 (B df.2.1.toNat j)) → Q (.ref p) H'
end
end WT
/-! WG: defs that run while no repr is under way. -/
namespace WG
open PySem PySem.Spec PyProof.Rows L2 Wy WN WQ
/-- as FnOk, but from callers alone in which no repr is under way -/
structure FnG (P : Program) (w : World) (K : PySem.W.Frag) (mg : Str → Option Value) (base : Heap) (k : Nat) (f : Addr) (fd : FuncData) (ps : List Str) (sp : Sp) : Prop where
  len : ∀ vs H Q E, sp vs H Q E → vs.length = ps.length
  run : ∀ (A : Around) (outer : List Env) (s : Shared) (H : Hp) (args : Args) (us : List Value) (vs : List V) (Q : VK) (E : XK), Room k A → A.guards = some [] → Env0 P w K mg base A outer s H →
    BindsTo s fd args (ps.zip us) → Vals vs us → sp vs H Q E → codeAny (model P w) A (.call (.ref f) args) (CR CX0 outer P w H s Q E) s
section
variable {P : Program} {w : World} {K : PySem.W.Frag} {mg : Str → Option Value} {base : Heap} {k : Nat} {f : Addr} {x qual : Str} {st : Stmt} {N ps : List Str} {sp : Sp}
theorem fnG (fd : FuncData) (F : FunD K x qual (defArgs st) (defBody st) (defScope st) [] [] f fd) (S : FnScope N ps (defScope st)) (len : ∀ vs H Q E, sp vs H Q E → vs.length = ps.length)
    (body : ∀ (f : Addr) (cdv : Value) (A : Around) (outer : List Env) (s : Shared) (H : Hp) (vs : List V) (Q : VK) (E : XK), Room k (A.deeper (envOfC qual (defScope st) s.heap.objs.size f cdv)) → (A.deeper (envOfC qual (defScope st) s.heap.objs.size f cdv)).guards = some [] → sp vs H Q E →
      ∃ t, PSs (cxOf CX0 P w K mg base N qual (defScope st) f cdv A outer s H E).nox (defBody st) t ∧ t { nx := fun _ H' => Q .non H', rt := Q } (start N vs) H) : FnG P w K mg base (k + 1) f fd ps sp := by
  obtain ⟨oc, od, dV, kV, doc, pm, an, cdv, ct, osl, rfl, lk, hcd, _, _⟩ := F.ex
  constructor
  · exact len
  · intro A outer s H args us vs Q E room quiet env bd rel told
    have stays : ∀ (b : Addr) (o : Obj), base.get? b = some o → s.heap.get? b = some o := fun b o q => (env.bs b o q).1
    have count := len vs H Q E told
    have heap : K.In s.heap := env.mod.kin.keeps stays
    refine codeAny_call_function room.depth (heap _ _ lk) rfl S.co S.gen rfl (PySem.W.codeRec_of heap hcd) ?_
    refine bd _ _ _ _ (wpAny_newFunctionEnv_cells S.kind ?kinds fun e he s1 made => ?_)
    case kinds =>
      intro y hy
      cases S.par y.1 (List.of_mem_zip (a := y.1) (b := y.2) hy).1 with
      | inl q => exact Or.inl q
      | inr q => exact Or.inr (And.intro q (PySem.W.cellsFrom_some _ _ _ (Or.inl q)))
    subst he
    have nolim : s.heap.NoLimit := env.mod.nolimit.keeps stays
    refine And.intro (nolim.keeps made.toInCall.keep) (codeAny_func ?_)
    obtain ⟨t, d, rd⟩ := body f cdv A outer s H vs Q E (room.deeper _) (by exact quiet) told
    have inv := inv_start (CX := CX0) (E := E) S room.hd env count rel made
    have ran := (PSs.nox d).run [] s1 (start N vs) H _ inv rd
    refine wpAny_mono ran (fun fl s' out => ?_) (fun e s' out => out)
    match fl, out with
    | .ret u, ⟨v, _, H', J, r, z⟩ => exact ⟨v, H', J.os, J.bare, J.base, J.hok, r, z⟩
    | .next, ⟨_, H', J, z⟩ => exact ⟨.non, H', J.os, J.bare, J.base, J.hok, rfl, z⟩
    | .brk, ⟨_, _, _, z⟩ => exact z.elim
    | .cont, ⟨_, _, _, z⟩ => exact z.elim
/-- a def that may be called where no repr is under way -/
structure CalG (P : Program) (w : World) (K : PySem.W.Frag) (mg : Str → Option Value) (base : Heap) (k : Nat) (x : Str) (sp : Sp) : Prop where
  ex : ∃ (f : Addr) (fd : FuncData) (ps : List Str), FnG P w K mg base k f fd ps sp ∧ mg x = some (.ref f) ∧ PySem.W.keepIn K (.ref f) = true ∧ Binds K fd ps []
theorem cal_ofG (F : DefOk K mg x st) (S : FnScope N ps (defScope st)) (hb : ∀ f fd, FunD K x x (defArgs st) (defBody st) (defScope st) [] [] f fd → Binds K fd ps []) (len : ∀ vs H Q E, sp vs H Q E → vs.length = ps.length)
    (body : ∀ (f : Addr) (cdv : Value) (A : Around) (outer : List Env) (s : Shared) (H : Hp) (vs : List V) (Q : VK) (E : XK), Room k (A.deeper (envOfC x (defScope st) s.heap.objs.size f cdv)) → (A.deeper (envOfC x (defScope st) s.heap.objs.size f cdv)).guards = some [] → sp vs H Q E →
      ∃ t, PSs (cxOf CX0 P w K mg base N x (defScope st) f cdv A outer s H E).nox (defBody st) t ∧ t { nx := fun _ H' => Q .non H', rt := Q } (start N vs) H) : CalG P w K mg base (k + 1) x sp := by
  obtain ⟨f, fd, F, hm⟩ := F.ex
  exact ⟨f, fd, ps, fnG fd F S len body, hm, F.kp, hb f fd F⟩
end
section
variable {X : Cx} {k j : Nat} {x : Str} {sp : Sp} {p pos : Pos} {e : Expr} {es : List Expr} {t : TA}
theorem pe_cG (c : CalG X.prog X.w X.K X.mg X.base k x sp) (hr : Room j X.A) (hk : k ≤ j) (hq : X.A.guards = some []) (hg : Gl X x) (ha : PA X (e :: es) t) (hdb : (x == ("__debug__" : Str)) = false := by decide)
    (he : starEach (e :: es) X.env = (false, eval e X.env) :: starEach es X.env := by rfl) (hpl : (backTo pos (starEach es X.env)).any (·.1) = false := by rfl) : PE X (.Call (.Name x p) (e :: es) [] pos) (tCall sp [] C8.E0 t) := by
  obtain ⟨f, fd, ps, F, hm, kp, b⟩ := c.ex
  constructor
  intro pins s σ H Q I h
  refine wpAny_Call_Name_kw (ld_glob I hg hm ?_ hdb)
  refine PySem.W.callWith_K (h₀ := X.base) I.ok.mod.kin kp ?_ he hpl
  refine thn (ha.run pos pins s σ H _ I h) fun us s1 ⟨vs, H1, I1, r, q⟩ => And.intro I1.kIn ?_
  have q : sp (vs ++ []) H1 Q C8.E0 := q
  rw [List.append_nil] at q
  have fits : us.length = ps.length := r.length.symm.trans (F.len vs H1 Q C8.E0 q)
  have bt := b s1 us I1.kIn (by rw [List.append_nil]; exact fits)
  rw [List.append_nil] at bt
  refine wpAny_call (codeAny_mono (F.run X.A X.stack s1 H1 ⟨us, []⟩ us vs Q C8.E0 (hr.mono hk) hq I1.env0 bt r q) ?_)
  intro res s' out
  match res, out with
  | .error _, z => exact z.elim
  | .ok (.ret _), z => exact I1.after z
  | .ok .next, z => exact z.elim
  | .ok .brk, z => exact z.elim
  | .ok .cont, z => exact z.elim
theorem call_reprG (hq : X.A.guards = some []) (hu : X.A.units + 64 < cLine) : CallR X (.builtin "repr") (rRepr X.K) := by
  intro pins s σ H xs us Q I r h
  obtain ⟨a, d, rfl, hd, hs, hn, hdp, hz, q⟩ := h
  obtain ⟨u, eu, rx⟩ := vals1 r
  subst eu
  obtain rfl : u = Value.ref a := rx
  obtain ⟨as, rd⟩ := Dp.reads I d _ _ hd rfl
  refine repr_of_reads' (h₀ := s.heap) rd hs (fun z => by rw [hn] at z; cases z) hq (by omega) (fun _ _ e => e) (fun h' u tk keep => ?_) hz
  exact ⟨.str d.shown, H, I.kept keep, ⟨u, rfl⟩, q⟩
end
/-! ### the end -/
section
variable {P : Program} {w : World} {K : PySem.W.Frag} {mg mb : Str → Option Value} {k : Nat} {fa a : Addr} {fd : FuncData} {x : Str} {sp : Sp} {s : Shared} {vs : List Value} {ns : List Int}
/-- the entry of the law, over what is not tracked -/
theorem enter (kin : K.In s.heap) (glob : s.heap.Ns mainGlobals mg) (blt : s.heap.Ns builtinsNs mb) (boot : ∀ x : Str, x ≠ "__name__" → mb x = bootBuiltins x) (nolim : s.heap.NoLimit) (gens : s.gens = #[])
    (obj : s.heap.get? a = some { cls := .type "list", data := .seq vs.toArray }) {H : Hp} (hok : HOk P w H s.heap) (one : ∀ b, H b ≠ none → b = a) (own : H a ≠ none → K.lookup a = none) :
    Env0 P w K mg (hidT s.heap H) callerA [] s H := by
  have free : ∀ b : Addr, b ≠ a → H b = none := fun b n => Classical.byContradiction fun z => n (one b z)
  have spaces : ∀ {b : Addr} {m : Str → Option Value}, s.heap.Ns b m → (hidT s.heap H).Ns b m := by
    rintro b m ⟨o, es, ep, e, d, r⟩
    refine ⟨o, es, ep, hidT_get e (free b fun z => ?_), d, r⟩
    rw [z, obj] at e
    rw [← Option.some.inj e] at d
    cases d
  have frag : K.In (hidT s.heap H) := by
    intro b o e
    by_cases q : H b = none
    · exact hidT_get (kin b o e) q
    · rw [one b q] at e q
      rw [own q] at e
      cases e
  obtain ⟨mc, l1, l2⟩ := nolim
  constructor
  · rfl
  · exact { kin := frag, glob := spaces glob, blt := ⟨mb, spaces blt, boot⟩, nolimit := ⟨mc, spaces l1, l2⟩ }
  · exact fun b o e => of_hidT e
  · exact Nat.le_of_eq (hidT_size s.heap H)
  · trivial
  · intro b hb
    simp [frs] at hb
  · exact hok
  · exact .of_eq gens
theorem lawG (kin : K.In s.heap) (glob : s.heap.Ns mainGlobals mg) (blt : s.heap.Ns builtinsNs mb) (boot : ∀ x : Str, x ≠ "__name__" → mb x = bootBuiltins x) (nolim : s.heap.NoLimit) (gens : s.gens = #[])
    (obj : s.heap.get? a = some { cls := .type "list", data := .seq vs.toArray }) (inn : IntsAre vs ns) (few : ns.length ≤ sizeLine) (room : Room k callerA) (F : ∀ base : Heap, FnG P w K mg base k fa fd [x] sp)
    (bd : ∀ (s : Shared) (u : Value), BindsTo s fd ⟨[u], []⟩ [(x, u)]) (told : ∀ H : Hp, SqL K H a (ns.map V.int) → sp [.ref a] H (fun v _ => v = .bl true) fun _ _ _ => False) :
    codeAny (model P w) callerA (.call (.ref fa) ⟨[.ref a], []⟩) (fun r s' => r = .ok (.ret (.bool true)) ∧ OldK s.heap s'.heap ∧ s'.os = s.os ∧ AllBare s'.gens) s := by
  have rel := vals_ints inn
  have count := inn.length
  obtain ⟨H, hok, one, own, frz, seq⟩ : ∃ H : Hp, HOk P w H s.heap ∧ (∀ b, H b ≠ none → b = a) ∧ (H a ≠ none → K.lookup a = none) ∧ (∀ b u, H b = some u → ∃ o xs, u = .frz o (.lst xs)) ∧ SqL K H a (ns.map V.int) := by
    cases lk : K.lookup a with
    | some o =>
      have e := kin a o lk
      rw [obj] at e
      cases e
      refine ⟨fun _ => none, (fun b u z => by cases z), (fun b z => absurd rfl z), (fun z => absurd rfl z), (fun b u z => by cases z), .inr ⟨_, vs.toArray, _, lk, rfl, rfl, rfl, ?_, ?_⟩⟩
      · rw [List.size_toArray, count]
        exact few
      · simpa using rel
    | none =>
      let O : Obj := { cls := .type "list", data := .seq vs.toArray }
      have at_ : ∀ b u, (if b = a then some (HO.frz O (.lst (ns.map V.int))) else none) = some u → b = a ∧ u = .frz O (.lst (ns.map V.int)) := fun b u z => by
        by_cases q : b = a
        · rw [if_pos q] at z
          exact ⟨q, (Option.some.inj z).symm⟩
        · rw [if_neg q] at z
          cases z
      refine ⟨fun b => if b = a then some (.frz O (.lst (ns.map V.int))) else none, fun b u z => ?_, fun b z => ?_, fun _ => rfl, fun b u z => ⟨_, _, (at_ b u z).2⟩, .inl (.inr ⟨O, if_pos rfl⟩)⟩
      · obtain ⟨rfl, rfl⟩ := at_ b u z
        exact ⟨obj, by rw [List.length_map]; exact few, vs, _, rel, obj⟩
      · by_cases q : b = a
        · exact q
        · exact absurd (if_neg q) z
  have env := enter (P := P) (w := w) kin glob blt boot nolim gens obj hok one own
  refine codeAny_mono ((F _).run callerA [] s H ⟨[.ref a], []⟩ [.ref a] [.ref a] _ _ room rfl env (bd s (.ref a)) (.cons rfl .nil) (told H seq)) ?_
  intro res s' out
  match res, out with
  | .error _, z => exact z.elim
  | .ok .next, z => exact z.elim
  | .ok .brk, z => exact z.elim
  | .ok .cont, z => exact z.elim
  | .ok (.ret u), ⟨v, H', os, bare, un, hok', r, z⟩ =>
    obtain rfl : v = .bl true := z
    obtain rfl : u = Value.bool true := r
    refine ⟨rfl, OldK.of_keep fun b o e => ?_, os, bare⟩
    cases q : H b with
    | none => exact un.keep b o e q (by simp [frs]) (by simp)
    | some u =>
      obtain ⟨ob, xs, rfl⟩ := frz b u q
      have before := (hok b _ q).1
      rw [e] at before
      rw [Option.some.inj before]
      exact (hok' b _ (un.frzs b ob _ q)).1
theorem walkG {l : PySem.W.OpenLaw} {n : Nat} {q : Program} {loose : List Str} {XP : (Str → Option Value) → Heap → Prop} {YP : World → Heap → Prop} {d : DefRec} (most : l.most = some n) (small : n ≤ sizeLine) (plain : d.params.defaults = []) (room : Room k callerA)
    (F : ∀ (w : World) (mg : Str → Option Value) (fa : Addr) (h : Heap), YP w h → h.Ns mainGlobals mg → mg d.name = some (.ref fa) → ∃ (K : PySem.W.Frag) (fd : FuncData) (sp : Sp), K.In h ∧ (∀ (s : Shared) (u : Value), BindsTo s fd ⟨[u], []⟩ [(x, u)]) ∧
      (∀ (H : Hp) (a : Addr) (ns : List Int), ns.length ≤ n → SqL K H a (ns.map V.int) → sp [.ref a] H (fun v _ => v = .bl true) fun _ _ _ => False) ∧ ∀ base : Heap, FnG l.prog w K mg base k fa fd [x] sp) :
    PySem.W.WalkO q loose XP YP l.row.toRowW d [] (fun f vs => PySem.call f vs) := by
  refine Att.attach_call most plain ?_
  intro w s₀ s₁ mg mb fa o pm cd doc a vs ns G Y ho hd hcd hmg obj inn len gens
  obtain ⟨K, fd, sp, kin, bd, told, fs⟩ := F w mg fa _ Y G.T.g hmg
  exact lawG kin G.T.g G.T.b G.T.builtins G.T.nolimit gens obj inn (Nat.le_trans len small) room fs bd fun H hS => told H a ns len hS
end
end WG
/-! WB: numbers with bounds, and their texts. -/
namespace WB
open PySem PySem.Spec PyProof.Rows L2 Wy WN WQ WS WC
/-- at most so great -/
def Bd (n : Nat) (i : Int) : Prop := i.natAbs < 10 ^ n
theorem Bd.iff {n : Nat} {i : Int} : Bd n i ↔ -(10 ^ n : Nat) < i ∧ i < (10 ^ n : Nat) := by
  unfold Bd
  omega
def DfB (n : Nat) (d : Df) : Prop := Bd n d.1 ∧ Bd n d.2.1 ∧ Bd n d.2.2
def spWtB : Sp := fun vs H Q _ => ∃ d : Int, vs = [.int d] ∧ ∀ r : Int, Bd 40 r → Q (.int r) H
def spDiffsB (K : PySem.W.Frag) : Sp := fun vs H Q _ => ∃ (a : Addr) (zs : List Int) (pl : Int) (n m : Nat), vs = [.ref a, .int pl, .int n, .int m] ∧ SqL K H a (zs.map V.int) ∧ n ≤ 100 ∧ m ≤ 1000 ∧
  ∀ p us H' ds, Same H H' → H p = none → H' p = some (.lst us) → TpAll H' us ((ds : List Df).map dfD) → ds.length = n → (∀ d ∈ ds, InR m d ∧ Bd 40 d.2.2) → Q (.ref p) H'
/-! ### texts of data -/
/-- data whose text is short: depth, weight -/
structure Rp (k n : Nat) (d : PyData) : Prop where
  sh : d.showable = true
  hd : d.hasDict = false
  lv : d.leavesShort 60 = true
  wt : d.weight ≤ n
  dp : d.depth ≤ k
theorem Rp.mono {k n k' n' : Nat} {d : PyData} (r : Rp k n d) (h : k ≤ k') (h' : n ≤ n') : Rp k' n' d := ⟨r.sh, r.hd, r.lv, Nat.le_trans r.wt h', Nat.le_trans r.dp h⟩
theorem rp_int {i : Int} (h : Bd 58 i) : Rp 0 200 (.int i) := by
  have hp : 10 ^ 58 ≤ 2 ^ 193 := by decide +kernel
  have h2 : i.natAbs.log2 < 193 := by
    by_cases h0 : i.natAbs = 0
    · rw [h0]
      decide
    · rw [Nat.log2_lt h0]
      exact Nat.lt_of_lt_of_le h hp
  refine ⟨?_, rfl, ?_, ?_, by simp [PyData.depth]⟩
  · simp only [PyData.showable, decide_eq_true_eq]
    omega
  · have e := PySem.int_text_length_le10 (k := 58) (by decide) h
    show decide ((Str.ofString (toString i)).length ≤ 60) = true
    rw [decide_eq_true_eq, PySem.ofString_length]
    omega
  · show (if i == 0 then 0 else i.natAbs.log2 + 1) ≤ 200
    split <;> omega
theorem all_parts {k n : Nat} : ∀ {ds : List PyData}, (∀ x ∈ ds, Rp k n x) → PyData.showableAll ds = true ∧ PyData.hasDictAll ds = false ∧ PyData.leavesShortAll 60 ds = true ∧ PyData.weightAll ds ≤ ds.length * (n + 1) ∧ PyData.depthAll ds ≤ k
  | [], _ => ⟨rfl, rfl, rfl, Nat.zero_le _, by simp [PyData.depthAll]⟩
  | x :: xs, h => by
    have h1 := h x List.mem_cons_self
    obtain ⟨a1, a2, a3, a4, a5⟩ := all_parts fun y hy => h y (List.mem_cons_of_mem _ hy)
    refine ⟨?_, ?_, ?_, ?_, ?_⟩
    · simp only [PyData.showableAll, h1.sh, a1, Bool.and_self]
    · simp only [PyData.hasDictAll, h1.hd, a2, Bool.or_self]
    · simp only [PyData.leavesShortAll, h1.lv, a3, Bool.and_self]
    · have := h1.wt
      simp only [PyData.weightAll, List.length_cons]
      rw [Nat.add_mul]
      omega
    · have := h1.dp
      simp only [PyData.depthAll]
      omega
theorem rp_tup {k n : Nat} {ds : List PyData} (h : ∀ x ∈ ds, Rp k n x) : Rp (k + 1) (ds.length * (n + 1)) (.tuple ds) := by
  obtain ⟨a1, a2, a3, a4, a5⟩ := all_parts h
  exact ⟨by simp only [PyData.showable, a1], by simp only [PyData.hasDict, a2], by simp only [PyData.leavesShort, a3], by simp only [PyData.weight]; exact a4, by simp only [PyData.depth]; omega⟩
theorem rp_lst {k n : Nat} {ds : List PyData} (h : ∀ x ∈ ds, Rp k n x) : Rp (k + 1) (ds.length * (n + 1)) (.list ds) := by
  obtain ⟨a1, a2, a3, a4, a5⟩ := all_parts h
  exact ⟨by simp only [PyData.showable, a1], by simp only [PyData.hasDict, a2], by simp only [PyData.leavesShort, a3], by simp only [PyData.weight]; exact a4, by simp only [PyData.depth]; omega⟩
theorem rp_len {k n : Nat} {d : PyData} (r : Rp k n d) (h : n ≤ 200000) : d.shown.length ≤ sizeLine := by
  have h1 := PyData.shown_le 60 (by decide) d r.lv
  have h2 := r.wt
  have hz : sizeLine = 16777216 := sizeLine_eq
  have h3 : (60 + 2) * d.weight ≤ 62 * 200000 := Nat.mul_le_mul (by decide) (by omega)
  omega
theorem rp_df {d : Df} (h : DfB 58 d) : Rp 1 603 (dfD d) := rp_tup (ds := [.int d.1, .int d.2.1, .int d.2.2]) (n := 200) fun x hx => by
  simp only [List.mem_cons, List.not_mem_nil, or_false] at hx
  rcases hx with rfl | rfl | rfl
  · exact rp_int h.1
  · exact rp_int h.2.1
  · exact rp_int h.2.2
/-- repr of data -/
theorem b_repr {K : PySem.W.Frag} {H : Hp} {Q : VK} {a : Addr} {d : PyData} {k n : Nat} (hd : Dp K H (.ref a) d) (r : Rp k n d) (hk : k ≤ 60) (hn : n ≤ 200000) (h : Q (.str d.shown) H) : rRepr K [.ref a] H Q :=
  ⟨a, d, rfl, hd, r.sh, r.hd, Nat.le_trans r.dp hk, rp_len r hn, h⟩
end WB
/-! WP: what the chains in a table of bounds mean. -/
namespace WP
open PySem PySem.Spec PyProof.Rows L2 Wy WN WQ WS WC WT
theorem room65 {k : Nat} {A : Around} (r : Room k A) : A.units + 65 < cLine := by
  have := r.un
  omega
/-- the nodes that a chain passes, from its start on -/
def nodes (u : Int) (es : List Df) : List Int := u :: es.map (·.2.1)
theorem path_at : ∀ {es : List Df} {u z s w : Int}, Path es u z s → w ∈ nodes u es → ∃ a b s1 s2, es = a ++ b ∧ Path a u w s1 ∧ Path b w z s2 ∧ s = s1 + s2
  | es, u, z, s, w, p, h => by
    induction p with
    | nil =>
      simp only [nodes, List.map_nil, List.mem_singleton] at h
      subst h
      exact ⟨[], [], 0, 0, rfl, .nil, .nil, rfl⟩
    | cons p ih =>
      rename_i r u v z c s
      simp only [nodes, List.map_cons, List.mem_cons] at h
      rcases h with rfl | h
      · exact ⟨[], _, 0, _, rfl, .nil, .cons p, (Int.zero_add _).symm⟩
      · have : w ∈ nodes v r := by
          unfold nodes
          rcases h with rfl | h
          · exact List.mem_cons_self
          · exact List.mem_cons_of_mem _ h
        obtain ⟨a, b, s1, s2, e, h1, h2, h3⟩ := ih this
        refine ⟨(u, v, c) :: a, b, c + s1, s2, by rw [e]; rfl, .cons h1, h2, by omega⟩
/-- a table and the differences that it was made of -/
structure Mean (n : Nat) (ds : List Df) (M : Tab) : Prop where
  sq : Sq2 M n
  cl : Cl n (bd M)
  inr : ∀ d ∈ ds, InR n d
  low : ∀ d ∈ ds, ∃ z, bd M d.1.toNat d.2.1.toNat = some z ∧ z ≤ d.2.2
  told : ∀ i j p, i ≤ n → j ≤ n → cell M i j = some p → (∀ k ∈ p.2, 0 ≤ k ∧ k < ds.length) ∧ Path (p.2.map (dsAt ds)) i j p.1 ∧ (nodes i (p.2.map (dsAt ds))).Nodup
theorem Mean.path {n : Nat} {ds : List Df} {M : Tab} (h : Mean n ds M) : ∀ {es : List Df} {u z s : Int}, Path es u z s → (∀ d ∈ es, d ∈ ds) → 0 ≤ u → u ≤ n → 0 ≤ z ∧ z ≤ n ∧ ∃ b, bd M u.toNat z.toNat = some b ∧ b ≤ s
  | _, u, _, _, .nil, _, h0, h1 => ⟨h0, h1, 0, h.cl.diag _ (by omega), Int.le_refl _⟩
  | _, u, z, _, .cons (v := v) (c := c) (s := s) (r := r) p, hm, h0, h1 => by
    have hd := hm (u, v, c) List.mem_cons_self
    obtain ⟨_, _, v0, v1⟩ := h.inr _ hd
    obtain ⟨x, ex, lx⟩ := h.low _ hd
    obtain ⟨z0, z1, y, ey, ly⟩ := h.path p (fun d hd => hm d (List.mem_cons_of_mem _ hd)) v0 v1
    have v0 : 0 ≤ v := v0
    have v1 : v ≤ n := v1
    have lx : x ≤ c := lx
    obtain ⟨b, eb, lb⟩ := h.cl.tri u.toNat v.toNat z.toNat x y (by omega) (by omega) (by omega) ex ey
    exact ⟨z0, z1, b, eb, by omega⟩
theorem dsAt_mem {ds : List Df} {k : Int} (h0 : 0 ≤ k) (h1 : k < ds.length) : dsAt ds k ∈ ds := by
  unfold dsAt
  rw [List.getD_eq_getElem?_getD, List.getElem?_eq_getElem (by omega)]
  exact List.getElem_mem _
theorem dsAt_app {ds es : List Df} {k : Int} (h0 : 0 ≤ k) (h1 : k < ds.length) : dsAt (ds ++ es) k = dsAt ds k := by
  unfold dsAt
  rw [List.getD_eq_getElem?_getD, List.getD_eq_getElem?_getD, List.getElem?_append_left (by omega)]
theorem map_app {ds es : List Df} {ns : List Int} (h : ∀ k ∈ ns, 0 ≤ k ∧ k < ds.length) : ns.map (dsAt (ds ++ es)) = ns.map (dsAt ds) := List.map_congr_left fun k hk => dsAt_app (h k hk).1 (h k hk).2
theorem Mean.start (n : Nat) : Mean n [] (tab0 n) := by
  refine ⟨tab0_sq n, tab0_cl n, fun _ h => (by cases h), fun _ h => (by cases h), fun i j p hi hj e => ?_⟩
  rw [tab0_cell hi hj] at e
  split at e
  · rename_i q
    cases e
    subst q
    exact ⟨fun _ h => (by cases h), Path.nil, by simp [nodes]⟩
  · cases e
/-- the chain that a tie brings passes each node once -/
theorem Mean.join {n : Nat} {ds : List Df} {M : Tab} (h : Mean n ds M) {d : Df} (hd : InR n d) (hr : ringOf M d = none) {i j : Nat} (hi : i ≤ n) (hj : j ≤ n) {p q : Int × List Int} (hp : cell M i d.1.toNat = some p) (hq : cell M d.2.1.toNat j = some q)
    (hn : ∀ o, cell M i j = some o → p.1 + d.2.2 + q.1 < o.1) :
    (∀ k ∈ p.2 ++ [(ds.length : Int)] ++ q.2, 0 ≤ k ∧ k < (ds ++ [d]).length) ∧ Path ((p.2 ++ [(ds.length : Int)] ++ q.2).map (dsAt (ds ++ [d]))) i j (p.1 + d.2.2 + q.1) ∧ (nodes i ((p.2 ++ [(ds.length : Int)] ++ q.2).map (dsAt (ds ++ [d])))).Nodup := by
  obtain ⟨h0, h1, h2, h3⟩ := hd
  obtain ⟨p1, p2, p3⟩ := h.told _ _ _ hi (by omega) hp
  obtain ⟨q1, q2, q3⟩ := h.told _ _ _ (by omega) hj hq
  rw [Int.toNat_of_nonneg h0] at p2
  rw [Int.toNat_of_nonneg h2] at q2 q3
  have last : dsAt (ds ++ [d]) (ds.length : Int) = d := by
    unfold dsAt
    rw [List.getD_eq_getElem?_getD, Int.toNat_natCast, List.getElem?_append_right (Nat.le_refl _), Nat.sub_self]
    rfl
  have e : (p.2 ++ [(ds.length : Int)] ++ q.2).map (dsAt (ds ++ [d])) = p.2.map (dsAt ds) ++ [d] ++ q.2.map (dsAt ds) := by
    rw [List.map_append, List.map_append, map_app p1, map_app q1, List.map_singleton, last]
  rw [e]
  have one : Path [d] d.1 d.2.1 d.2.2 := Path.one
  refine ⟨fun k hk => ?_, (p2.app one).app q2, ?_⟩
  · rw [List.length_append, List.length_singleton]
    simp only [List.mem_append, List.mem_singleton] at hk
    rcases hk with (hk | rfl) | hk
    · have := p1 k hk
      omega
    · omega
    · have := q1 k hk
      omega
  · have en : nodes i (p.2.map (dsAt ds) ++ [d] ++ q.2.map (dsAt ds)) = nodes i (p.2.map (dsAt ds)) ++ nodes d.2.1 (q.2.map (dsAt ds)) := by
      simp [nodes]
    rw [en, List.nodup_append]
    refine ⟨p3, q3, fun w hw v hv e => ?_⟩
    subst e
    obtain ⟨a1, b1, s1, s2, ea, pa, pb, es⟩ := path_at p2 hw
    obtain ⟨a2, b2, t1, t2, eb, qa, qb, et⟩ := path_at q2 hv
    have ma : ∀ x ∈ a1 ++ b1, x ∈ ds := fun x hx => by
      rw [← ea] at hx
      obtain ⟨k, hk, rfl⟩ := List.mem_map.mp hx
      exact dsAt_mem (p1 k hk).1 (p1 k hk).2
    have mb : ∀ x ∈ a2 ++ b2, x ∈ ds := fun x hx => by
      rw [← eb] at hx
      obtain ⟨k, hk, rfl⟩ := List.mem_map.mp hx
      exact dsAt_mem (q1 k hk).1 (q1 k hk).2
    obtain ⟨_, _, o, eo, lo⟩ := h.path (pa.app qb) (fun x hx => by
      rcases List.mem_append.mp hx with hx | hx
      · exact ma x (List.mem_append_left _ hx)
      · exact mb x (List.mem_append_right _ hx)) (by omega) (by omega)
    obtain ⟨_, _, r, er, lr⟩ := h.path (qa.app pb) (fun x hx => by
      rcases List.mem_append.mp hx with hx | hx
      · exact mb x (List.mem_append_left _ hx)
      · exact ma x (List.mem_append_right _ hx)) h2 h3
    have hring := ring_none hr r er
    rw [Int.toNat_natCast, Int.toNat_natCast] at eo
    obtain ⟨oc, ec, e1⟩ := Option.map_eq_some_iff.mp eo
    have := hn oc ec
    omega
/-- a cell of the table behind a tie: the old one, or the chain through the new difference -/
theorem tie_cell {M : Tab} {n k i j : Nat} {d : Df} {p : Int × List Int} (h : Sq2 M n) (hd : InR n d) (hi : i ≤ n) (hj : j ≤ n) (e : cell (tieM M d k) i j = some p) :
    cell M i j = some p ∨ ∃ a b, cell M i d.1.toNat = some a ∧ cell M d.2.1.toNat j = some b ∧ p = (a.1 + d.2.2 + b.1, a.2 ++ [(k : Int)] ++ b.2) ∧ ∀ o, cell M i j = some o → a.1 + d.2.2 + b.1 < o.1 := by
  obtain ⟨h0, h1, h2, h3⟩ := hd
  have key : cell (bring M d.1.toNat d.2.1.toNat (d.2.2, [(k : Int)])) i j = some p → cell M i j = some p ∨ ∃ a b, cell M i d.1.toNat = some a ∧ cell M d.2.1.toNat j = some b ∧ p = (a.1 + d.2.2 + b.1, a.2 ++ [(k : Int)] ++ b.2) ∧ ∀ o, cell M i j = some o → a.1 + d.2.2 + b.1 < o.1 := by
    intro e
    rw [bring_cell h (by omega) (by omega) hi hj] at e
    cases ea : cell M i d.1.toNat with
    | none =>
      rw [ea] at e
      exact .inl e
    | some a =>
      rw [ea] at e
      have e : shorter (cell M i j) (joinC a (d.2.2, [(k : Int)])) (cell M d.2.1.toNat j) = some p := e
      cases eb : cell M d.2.1.toNat j with
      | none =>
        rw [eb] at e
        exact .inl e
      | some b =>
        rw [eb] at e
        cases eo : cell M i j with
        | none =>
          rw [eo] at e
          exact .inr ⟨a, b, rfl, rfl, (Option.some.inj e).symm, fun o h => by cases h⟩
        | some o =>
          rw [eo, shorter_some] at e
          split at e
          · exact .inl e
          · rename_i q
            refine .inr ⟨a, b, rfl, rfl, (Option.some.inj e).symm, fun o' h => ?_⟩
            cases h
            simp only [joinC] at q
            omega
  unfold tieM at e
  cases eg : cell M d.1.toNat d.2.1.toNat with
  | none =>
    rw [eg] at e
    exact key e
  | some g =>
    rw [eg] at e
    have e : cell (if d.2.2 < g.1 then bring M d.1.toNat d.2.1.toNat (d.2.2, [(k : Int)]) else M) i j = some p := e
    split at e
    · exact key e
    · exact .inl e
/-- a tie without a ring keeps the meaning -/
theorem Mean.tie {n : Nat} {ds : List Df} {M : Tab} (h : Mean n ds M) {d : Df} (hd : InR n d) (hr : ringOf M d = none) : Mean n (ds ++ [d]) (tieM M d ds.length) := by
  refine ⟨tie_sq h.sq hd, tie_cl h.sq h.cl hd hr, fun x hx => ?_, fun x hx => ?_, fun i j p hi hj e => ?_⟩
  · rcases List.mem_append.mp hx with hx | hx
    · exact h.inr x hx
    · rw [List.mem_singleton.mp hx]
      exact hd
  · obtain ⟨h0, h1, h2, h3⟩ := hd
    rcases List.mem_append.mp hx with hx | hx
    · obtain ⟨x0, x1, x2, x3⟩ := h.inr x hx
      obtain ⟨z, ez, lz⟩ := h.low x hx
      rw [tie_bd h.sq h.cl ⟨h0, h1, h2, h3⟩ (by omega) (by omega), ez]
      obtain ⟨z', e', l'⟩ := relax_old (x := bd M x.1.toNat d.1.toNat) (y := bd M d.2.1.toNat x.2.1.toNat) (c := d.2.2) (o := z)
      exact ⟨z', e', by omega⟩
    · obtain rfl := List.mem_singleton.mp hx
      rw [tie_bd h.sq h.cl ⟨h0, h1, h2, h3⟩ (by omega) (by omega), h.cl.diag _ (by omega), h.cl.diag _ (by omega)]
      obtain ⟨z', e', l'⟩ := relax_new (b := bd M x.1.toNat x.2.1.toNat) (c := x.2.2) (p := 0) (q := 0)
      exact ⟨z', e', by omega⟩
  · rcases tie_cell h.sq hd hi hj e with e | ⟨a, b, ea, eb, rfl, hn⟩
    · obtain ⟨t1, t2, t3⟩ := h.told i j p hi hj e
      rw [map_app t1]
      refine ⟨fun k hk => ?_, t2, t3⟩
      have := t1 k hk
      rw [List.length_append]
      omega
    · exact h.join hd hr hi hj ea eb hn
/-- a chain that passes each node once is short -/
theorem Mean.short {n : Nat} {ds : List Df} {M : Tab} (h : Mean n ds M) : Short M n := by
  intro row hr c hc
  obtain ⟨i, hi, rfl⟩ := List.getElem_of_mem hr
  obtain ⟨j, hj, ej⟩ := List.getElem_of_mem hc
  have li := h.sq.2 _ (List.getElem_mem hi)
  have hi' : i ≤ n := by
    have := h.sq.1
    omega
  have hj' : j ≤ n := by omega
  have e : cell M i j = some c := by
    unfold cell
    rw [List.getD_eq_getElem?_getD (l := M), List.getElem?_eq_getElem hi]
    show (M[i]).getD j none = _
    rw [List.getD_eq_getElem?_getD, List.getElem?_eq_getElem hj, ej]
    rfl
  obtain ⟨t1, t2, t3⟩ := h.told i j c hi' hj' e
  have sub : ∀ x ∈ nodes i (c.2.map (dsAt ds)), x ∈ (List.range (n + 1)).map fun (k : Nat) => (k : Int) := fun x hx => by
    have : 0 ≤ x ∧ x ≤ n := by
      rcases List.mem_cons.mp hx with rfl | hx
      · omega
      · obtain ⟨d, hd, rfl⟩ := List.mem_map.mp hx
        obtain ⟨k, hk, rfl⟩ := List.mem_map.mp hd
        obtain ⟨_, _, r3, r4⟩ := h.inr _ (dsAt_mem (t1 k hk).1 (t1 k hk).2)
        exact ⟨r3, r4⟩
    exact List.mem_map.mpr ⟨x.toNat, List.mem_range.mpr (by omega), by omega⟩
  have le := List.Nodup.length_le_of_subset t3 sub
  simp only [nodes, List.length_cons, List.length_map, List.length_range] at le
  omega
/-- the ring that a tie closes is one -/
theorem Mean.ring {n : Nat} {ds : List Df} {M : Tab} (h : Mean n ds M) {d : Df} (hd : InR n d) {r : List Int} (hr : ringOf M d = some r) : ∃ s, csum (ds ++ [d]) ((ds.length : Int) :: r) = some (d.1, d.1, s) ∧ s < 0 := by
  obtain ⟨h0, h1, h2, h3⟩ := hd
  unfold ringOf at hr
  cases e : cell M d.2.1.toNat d.1.toNat with
  | none =>
    rw [e] at hr
    cases hr
  | some b =>
    rw [e] at hr
    have hr : (if d.2.2 + b.1 < 0 then some b.2 else none) = some r := hr
    split at hr
    · cases hr
      obtain ⟨t1, t2, t3⟩ := h.told _ _ b (by omega) (by omega) e
      rw [Int.toNat_of_nonneg h0, Int.toNat_of_nonneg h2] at t2
      have last : dsAt (ds ++ [d]) (ds.length : Int) = d := by
        unfold dsAt
        rw [List.getD_eq_getElem?_getD, Int.toNat_natCast, List.getElem?_append_right (Nat.le_refl _), Nat.sub_self]
        rfl
      refine ⟨d.2.2 + b.1, csum_path (fun k hk => ?_) ?_ (by simp), by assumption⟩
      · rw [List.length_append, List.length_singleton]
        rcases List.mem_cons.mp hk with rfl | hk
        · omega
        · have := t1 k hk
          omega
      · rw [List.map_cons, last, map_app t1]
        exact Path.cons t2
    · cases hr
end WP
namespace WX
/-! the paper of a shortest suite: nodes (chosen, barred), the stack's top first -/
abbrev Node := List Nat × List Nat
def holds (S : List (List Nat)) (e k : Nat) : Bool := (S.getD k []).contains e
def hol (S : List (List Nat)) (e : Nat) : List Nat := (List.range S.length).filter (holds S e)
def br : List Nat → List Nat → List Nat → List Node
  | [], _, _ => []
  | k :: ks, c, b => if k ∈ b then br ks c b else (c ++ [k], b) :: br ks c (b ++ [k])
def push (S : List (List Nat)) (m e : Nat) (c b : List Nat) (st : List Node) : List Node :=
  if c.length < m then br (hol S e) c b ++ st else st
def hit (S : List (List Nat)) (e : Nat) (c : List Nat) : Bool := c.any (holds S e)
def acc (S : List (List Nat)) (m : Nat) : List Nat → List Node → Bool
  | [], st => st.isEmpty
  | _ :: _, [] => false
  | e :: es, (c, b) :: st => if hol S e = [] then false else if hit S e c then false else acc S m es (push S m e c b st)
structure Ok (S : List (List Nat)) (m : Nat) (C : List Nat) : Prop where
  len : C.length ≤ m
  lt : ∀ k ∈ C, k < S.length
  all : ∀ e, hol S e ≠ [] → hit S e C = true
structure Comp (C : List Nat) (nd : Node) : Prop where
  un : nd.1.Nodup
  sub : ∀ k ∈ nd.1, k ∈ C
  out : ∀ k ∈ nd.2, k ∉ C
def Inv (S : List (List Nat)) (m : Nat) (st : List Node) : Prop := ∀ C, Ok S m C → ∃ nd ∈ st, Comp C nd
theorem nodup_len {l C : List Nat} (h : l.Nodup) (s : ∀ k ∈ l, k ∈ C) : l.length ≤ C.length := by
  induction l generalizing C with
  | nil => simp
  | cons a t ih =>
    have ha : a ∈ C := s a (by simp)
    have hn := List.nodup_cons.1 h
    have := ih (C := C.erase a) hn.2 (fun k hk => by
      have hk2 := s k (by simp [hk])
      have : k ≠ a := fun e => hn.1 (e ▸ hk)
      exact (List.mem_erase_of_ne this).2 hk2)
    have h2 := List.length_erase_of_mem ha
    have h3 : 0 < C.length := List.length_pos_of_mem ha
    simp only [List.length_cons]; omega
theorem hit_iff {S e c} : hit S e c = true ↔ ∃ k ∈ c, holds S e k = true := by simp [hit]
theorem mem_hol {S e k} : k ∈ hol S e ↔ k < S.length ∧ holds S e k = true := by simp [hol]
theorem br_comp {C ks c b} (hc : c.Nodup) (hs : ∀ k ∈ c, k ∈ C) (ho : ∀ k ∈ b, k ∉ C) (hn : ∀ k ∈ ks, k ∉ c) (hx : ∃ k ∈ ks, k ∈ C) : ∃ nd ∈ br ks c b, Comp C nd := by
  induction ks generalizing b with
  | nil => obtain ⟨k, hk, _⟩ := hx; exact absurd hk (by simp)
  | cons k ks ih =>
    unfold br
    by_cases hkb : k ∈ b
    · rw [if_pos hkb]
      refine ih ho (fun x hx => hn x (by simp [hx])) ?_
      obtain ⟨x, hx, hxC⟩ := hx
      rcases List.mem_cons.1 hx with rfl | hx
      · exact absurd hxC (ho _ hkb)
      · exact ⟨x, hx, hxC⟩
    · rw [if_neg hkb]
      by_cases hkC : k ∈ C
      · refine ⟨_, List.mem_cons_self .., ⟨?_, ?_, ho⟩⟩
        · refine List.nodup_append.2 ⟨hc, by simp, ?_⟩
          intro a ha x hx
          have : x = k := by simpa using hx
          subst this
          exact fun e => hn x (by simp) (e ▸ ha)
        · intro x hx
          rcases List.mem_append.1 hx with hx | hx
          · exact hs x hx
          · have : x = k := by simpa using hx
            exact this ▸ hkC
      · obtain ⟨x, hx, hxC⟩ := hx
        have hx : x ∈ ks := by
          rcases List.mem_cons.1 hx with rfl | hx
          · exact absurd hxC hkC
          · exact hx
        obtain ⟨nd, hnd, hcomp⟩ := ih (b := b ++ [k]) (by
          intro y hy
          rcases List.mem_append.1 hy with hy | hy
          · exact ho y hy
          · have : y = k := by simpa using hy
            exact this ▸ hkC) (fun x hx => hn x (by simp [hx])) ⟨x, hx, hxC⟩
        exact ⟨nd, List.mem_cons_of_mem _ hnd, hcomp⟩
theorem inv_step {S m e c b st} (I : Inv S m ((c, b) :: st)) (h1 : hol S e ≠ []) (h2 : hit S e c = false) : Inv S m (push S m e c b st) := by
  intro C O
  obtain ⟨nd, hnd, hc⟩ := I C O
  rcases List.mem_cons.1 hnd with rfl | hnd
  · have hh := hit_iff.1 (O.all e h1)
    obtain ⟨k, hk, hke⟩ := hh
    have hnc : ∀ k ∈ hol S e, k ∉ c := by
      intro x hx hxc
      have : hit S e c = true := hit_iff.2 ⟨x, hxc, (mem_hol.1 hx).2⟩
      rw [h2] at this; exact absurd this (by decide)
    have hkh : k ∈ hol S e := mem_hol.2 ⟨O.lt k hk, hke⟩
    have hlt : c.length < m := by
      have hkc := hnc k hkh
      have hnd2 : (k :: c).Nodup := List.nodup_cons.2 ⟨hkc, hc.un⟩
      have := nodup_len hnd2 (C := C) (fun x hx => by
        rcases List.mem_cons.1 hx with rfl | hx
        · exact hk
        · exact hc.sub x hx)
      have := O.len
      simp only [List.length_cons] at *; omega
    unfold push
    rw [if_pos hlt]
    obtain ⟨nd, h, hcm⟩ := br_comp hc.un hc.sub hc.out hnc ⟨k, hkh, hk⟩
    exact ⟨nd, List.mem_append_left _ h, hcm⟩
  · unfold push
    split
    · exact ⟨nd, List.mem_append_right _ hnd, hc⟩
    · exact ⟨nd, hnd, hc⟩
theorem inv_start {S m} : Inv S m [([], [])] := fun C _ => ⟨_, List.mem_cons_self .., ⟨by simp, by simp, by simp⟩⟩
theorem inv_end {S m} (I : Inv S m []) {C} (O : Ok S m C) : False := by
  obtain ⟨nd, h, _⟩ := I C O
  exact absurd h (by simp)
theorem acc_sound {S m es st} (I : Inv S m st) (h : acc S m es st = true) {C} (O : Ok S m C) : False := by
  induction es generalizing st with
  | nil =>
    cases st with
    | nil => exact inv_end I O
    | cons a t => simp [acc] at h
  | cons e es ih =>
    cases st with
    | nil => simp [acc] at h
    | cons a t =>
      obtain ⟨c, b⟩ := a
      simp only [acc] at h
      split at h
      · exact absurd h (by decide)
      · split at h
        · exact absurd h (by decide)
        · rename_i h1 h2
          exact ih (inv_step I h1 (by simpa using h2)) h
/-! nodes on the stack: their chosen numbers -/
structure Good (S : List (List Nat)) (m : Nat) (nd : Node) : Prop where
  un : nd.1.Nodup
  lt : ∀ k ∈ nd.1, k < S.length
  blt : ∀ k ∈ nd.2, k < S.length
  bun : nd.2.Nodup
  len : nd.1.length ≤ m
theorem br_good {S m ks c b} (hc : c.Nodup) (hl : c.length < m) (hs : ∀ k ∈ c, k < S.length) (hb : ∀ k ∈ b, k < S.length) (hbn : b.Nodup) (hk : ∀ k ∈ ks, k < S.length) (hn : ∀ k ∈ ks, k ∉ c) : ∀ nd ∈ br ks c b, Good S m nd := by
  induction ks generalizing b with
  | nil => intro nd h; exact absurd h (by simp [br])
  | cons k ks ih =>
    unfold br
    split
    · exact ih hb hbn (fun x hx => hk x (by simp [hx])) (fun x hx => hn x (by simp [hx]))
    · rename_i hkb
      intro nd h
      rcases List.mem_cons.1 h with rfl | h
      · refine ⟨?_, ?_, hb, hbn, by simp; omega⟩
        · refine List.nodup_append.2 ⟨hc, by simp, ?_⟩
          intro a ha x hx
          have : x = k := by simpa using hx
          subst this
          exact fun e => hn x (by simp) (e ▸ ha)
        · intro x hx
          rcases List.mem_append.1 hx with hx | hx
          · exact hs x hx
          · have : x = k := by simpa using hx
            exact this ▸ hk k (by simp)
      · refine ih (b := b ++ [k]) ?_ (List.nodup_append.2 ⟨hbn, by simp, fun a ha x hx => by
          have : x = k := by simpa using hx
          subst this
          exact fun e => hkb (e ▸ ha)⟩) (fun x hx => hk x (by simp [hx])) (fun x hx => hn x (by simp [hx])) nd h
        intro x hx
        rcases List.mem_append.1 hx with hx | hx
        · exact hb x hx
        · have : x = k := by simpa using hx
          exact this ▸ hk k (by simp)
theorem not_hit {S e c} (h2 : hit S e c = false) : ∀ k ∈ hol S e, k ∉ c := by
  intro x hx hxc
  have : hit S e c = true := hit_iff.2 ⟨x, hxc, (mem_hol.1 hx).2⟩
  rw [h2] at this; exact absurd this (by decide)
theorem push_good {S m e c b st} (G : ∀ nd ∈ (c, b) :: st, Good S m nd) (h2 : hit S e c = false) : ∀ nd ∈ push S m e c b st, Good S m nd := by
  intro nd h
  unfold push at h
  have g := G (c, b) (by simp)
  split at h
  · rename_i hl
    rcases List.mem_append.1 h with h | h
    · exact br_good g.un hl g.lt g.blt g.bun (fun k hk => (mem_hol.1 hk).1) (not_hit h2) nd h
    · exact G nd (by simp [h])
  · exact G nd (by simp [h])
theorem good_start {S m} : ∀ nd ∈ [(([], []) : Node)], Good S m nd := by
  intro nd h
  have : nd = ([], []) := by simpa using h
  subst this
  exact ⟨by simp, by simp, by simp, by simp, Nat.zero_le _⟩
theorem small_nodup {l : List Nat} {n : Nat} (h : l.Nodup) (hl : ∀ k ∈ l, k < n) : l.length ≤ n := by
  have := nodup_len h (C := List.range n) (fun k hk => List.mem_range.2 (hl k hk))
  rwa [List.length_range] at this
theorem br_len {c} : ∀ {ks b : List Nat}, (br ks c b).length ≤ ks.length
  | [], b => Nat.le_refl _
  | k :: ks, b => by
    unfold br
    split
    · exact Nat.le_succ_of_le br_len
    · exact Nat.succ_le_succ br_len
/-! how many steps -/
def free (n : Nat) (c b : List Nat) : Nat := ((List.range n).filter (fun k => decide (k ∉ c ∧ k ∉ b))).length
def wt (n : Nat) : List Node → Nat
  | [] => 0
  | nd :: st => 2 ^ free n nd.1 nd.2 + wt n st
theorem wt_app {n x y} : wt n (x ++ y) = wt n x + wt n y := by
  induction x with
  | nil => simp [wt]
  | cons a t ih => simp only [List.cons_append, wt, ih]; omega
theorem filt_lt {l : List Nat} {p q : Nat → Bool} (hi : ∀ k, q k = true → p k = true) {k} (hk : k ∈ l) (hp : p k = true) (hq : q k = false) : (l.filter q).length < (l.filter p).length := by
  have hle : ∀ l : List Nat, (l.filter q).length ≤ (l.filter p).length := by
    intro l
    induction l with
    | nil => simp
    | cons a t ih =>
      by_cases hqa : q a = true
      · rw [List.filter_cons_of_pos hqa, List.filter_cons_of_pos (hi a hqa)]; simp; exact ih
      · rw [List.filter_cons_of_neg hqa]
        by_cases hpa : p a = true
        · rw [List.filter_cons_of_pos hpa]; simp; omega
        · rw [List.filter_cons_of_neg hpa]; exact ih
  induction l with
  | nil => exact absurd hk (by simp)
  | cons a t ih =>
    rcases List.mem_cons.1 hk with rfl | hk
    · rw [List.filter_cons_of_neg (by simp [hq]), List.filter_cons_of_pos hp]
      have := hle t
      simp; omega
    · have := ih hk
      by_cases hqa : q a = true
      · rw [List.filter_cons_of_pos hqa, List.filter_cons_of_pos (hi a hqa)]; simp; exact this
      · rw [List.filter_cons_of_neg hqa]
        by_cases hpa : p a = true
        · rw [List.filter_cons_of_pos hpa]; simp; omega
        · rw [List.filter_cons_of_neg hpa]; exact this
theorem free_c {n c b k} (h : k < n) (hc : k ∉ c) (hb : k ∉ b) : free n (c ++ [k]) b + 1 ≤ free n c b :=
  filt_lt (p := fun k => decide (k ∉ c ∧ k ∉ b)) (q := fun x => decide (x ∉ c ++ [k] ∧ x ∉ b)) (fun x hx => by simp at *; exact ⟨hx.1.1, hx.2⟩) (List.mem_range.2 h) (by simp [hc, hb]) (by simp)
theorem free_b {n c b k} (h : k < n) (hc : k ∉ c) (hb : k ∉ b) : free n c (b ++ [k]) + 1 ≤ free n c b :=
  filt_lt (p := fun k => decide (k ∉ c ∧ k ∉ b)) (q := fun x => decide (x ∉ c ∧ x ∉ b ++ [k])) (fun x hx => by simp at *; exact ⟨hx.1, hx.2.1⟩) (List.mem_range.2 h) (by simp [hc, hb]) (by simp)
theorem wt_br {n ks c b} (hk : ∀ k ∈ ks, k < n) (hn : ∀ k ∈ ks, k ∉ c) : wt n (br ks c b) + 1 ≤ 2 ^ free n c b := by
  induction ks generalizing b with
  | nil => simp [br, wt]; exact Nat.one_le_two_pow
  | cons k ks ih =>
    unfold br
    split
    · exact ih (fun x hx => hk x (by simp [hx])) (fun x hx => hn x (by simp [hx]))
    · rename_i hb
      have h1 := ih (b := b ++ [k]) (fun x hx => hk x (by simp [hx])) (fun x hx => hn x (by simp [hx]))
      have h2 := free_c (hk k (by simp)) (hn k (by simp)) hb
      have h3 := free_b (hk k (by simp)) (hn k (by simp)) hb
      have h4 : 2 ^ free n (c ++ [k]) b ≤ 2 ^ (free n c b - 1) := Nat.pow_le_pow_right (by decide) (by omega)
      have h5 : 2 ^ free n c (b ++ [k]) ≤ 2 ^ (free n c b - 1) := Nat.pow_le_pow_right (by decide) (by omega)
      have h6 : 2 ^ free n c b = 2 ^ (free n c b - 1) * 2 := by rw [← Nat.pow_succ]; congr 1; omega
      simp only [wt]; omega
theorem wt_push {S m e c b st} (h2 : hit S e c = false) : wt S.length (push S m e c b st) + 1 ≤ wt S.length ((c, b) :: st) := by
  unfold push
  simp only [wt]
  split
  · rw [wt_app]
    have := wt_br (n := S.length) (ks := hol S e) (c := c) (b := b) (fun k hk => (mem_hol.1 hk).1) (not_hit h2)
    omega
  · have : 1 ≤ 2 ^ free S.length c b := Nat.one_le_two_pow
    omega
theorem wt_start {n} (h : n < 7) : wt n [([], [])] ≤ 64 := by
  simp only [wt]
  have : free n [] [] ≤ 6 := by
    have := List.length_filter_le (fun k => decide (k ∉ ([] : List Nat) ∧ k ∉ ([] : List Nat))) (List.range n)
    rw [List.length_range] at this
    unfold free; omega
  have := Nat.pow_le_pow_right (n := 2) (by decide) this
  omega
/-! the choices -/
def ch (m : Nat) : Nat → List (List Nat)
  | 0 => [[]]
  | k + 1 => ch m k ++ ((ch m k).filter (fun c => decide (c.length < m))).map (· ++ [k])
theorem ch_ok {m n c} (h : c ∈ ch m n) : c.length ≤ m ∧ ∀ k ∈ c, k < n := by
  induction n generalizing c with
  | zero => simp [ch] at h; subst h; simp
  | succ n ih =>
    rcases List.mem_append.1 h with h | h
    · exact ⟨(ih h).1, fun k hk => Nat.lt_succ_of_lt ((ih h).2 k hk)⟩
    · obtain ⟨d, hd, rfl⟩ := List.mem_map.1 h
      have hd := List.mem_filter.1 hd
      have i := ih hd.1
      have hl : d.length < m := by simpa using hd.2
      refine ⟨by simp; omega, fun k hk => ?_⟩
      rcases List.mem_append.1 hk with hk | hk
      · exact Nat.lt_succ_of_lt (i.2 k hk)
      · have : k = n := by simpa using hk
        omega
theorem ch_mem {m n} {p : Nat → Bool} (h : ((List.range n).filter p).length ≤ m) : (List.range n).filter p ∈ ch m n := by
  induction n with
  | zero => simp [ch]
  | succ n ih =>
    rw [List.range_succ, List.filter_append] at h ⊢
    by_cases hp : p n = true
    · rw [List.filter_cons_of_pos hp, List.filter_nil] at h ⊢
      simp at h
      refine List.mem_append_right _ (List.mem_map.2 ⟨_, List.mem_filter.2 ⟨ih (by omega), by simp; omega⟩, rfl⟩)
    · rw [List.filter_cons_of_neg hp, List.filter_nil, List.append_nil] at h ⊢
      exact List.mem_append_left _ (ih h)
def can (S : List (List Nat)) (m : Nat) : Prop := ∃ C, Ok S m C
theorem can_ch {S m} : can S m ↔ ∃ c ∈ ch m S.length, ∀ e, hol S e ≠ [] → hit S e c = true := by
  constructor
  · rintro ⟨C, O⟩
    have hn : ((List.range S.length).filter (fun k => decide (k ∈ C))).length ≤ C.length :=
      nodup_len (List.Nodup.sublist List.filter_sublist List.nodup_range) (fun k hk => by simpa using (List.mem_filter.1 hk).2)
    refine ⟨_, ch_mem (p := fun k => decide (k ∈ C)) (Nat.le_trans hn O.len), fun e he => ?_⟩
    obtain ⟨k, hk, hke⟩ := hit_iff.1 (O.all e he)
    exact hit_iff.2 ⟨k, List.mem_filter.2 ⟨List.mem_range.2 (O.lt k hk), by simpa using hk⟩, hke⟩
  · rintro ⟨c, hc, h⟩
    exact ⟨c, (ch_ok hc).1, (ch_ok hc).2, h⟩
theorem good_can {S m nd} (g : Good S m nd) (h : ∀ e, hol S e ≠ [] → hit S e nd.1 = true) : can S m := ⟨nd.1, g.len, g.lt, h⟩
theorem br_in {k ks c b} (h : k ∈ b) : br (k :: ks) c b = br ks c b := if_pos h
theorem br_out {k ks c b} (h : ¬ k ∈ b) : br (k :: ks) c b = (c ++ [k], b) :: br ks c (b ++ [k]) := if_neg h
/-! holders with doubles -/
theorem br_dbl {k ks c b} : br (k :: k :: ks) c b = br (k :: ks) c b := by
  by_cases h : k ∈ b
  · simp [br, h]
  · simp [br, h]
/-! ### holders as the program lays them -/
def addE (k : Nat) (g : Nat → List Nat) (e : Nat) : Nat → List Nat := fun x => if x = e then g x ++ [k] else g x
def evFold (g : Nat → List Nat) (k : Nat) (s : List Nat) : Nat → List Nat := s.foldl (addE k) g
def fillS : (Nat → List Nat) → Nat → List (List Nat) → Nat → List Nat
  | g, _, [] => g
  | g, k, s :: S => fillS (evFold g k s) (k + 1) S
def holR : Nat → List (List Nat) → Nat → List Nat
  | _, [], _ => []
  | k, s :: S, x => List.replicate (s.count x) k ++ holR (k + 1) S x
def holF : Nat → List (List Nat) → Nat → List Nat
  | _, [], _ => []
  | k, s :: S, x => (if s.contains x then [k] else []) ++ holF (k + 1) S x
theorem evFold_eq {k x : Nat} : ∀ {s : List Nat} {g : Nat → List Nat}, evFold g k s x = g x ++ List.replicate (s.count x) k
  | [], g => by simp [evFold]
  | e :: s, g => by
    have h := evFold_eq (k := k) (x := x) (s := s) (g := addE k g e)
    show evFold (addE k g e) k s x = _
    rw [h]
    unfold addE
    by_cases q : x = e
    · subst q
      rw [if_pos rfl, List.count_cons_self, List.append_assoc, List.replicate_succ]
      rfl
    · rw [if_neg q, List.count_cons_of_ne (Ne.symm q)]
theorem fillS_eq {x : Nat} : ∀ {S : List (List Nat)} {k : Nat} {g : Nat → List Nat}, fillS g k S x = g x ++ holR k S x
  | [], k, g => by simp [fillS, holR]
  | s :: S, k, g => by
    show fillS (evFold g k s) (k + 1) S x = _
    rw [fillS_eq, evFold_eq]
    simp [holR]
theorem fill0 {S : List (List Nat)} {x : Nat} : fillS (fun _ => []) 0 S x = holR 0 S x := by
  rw [fillS_eq]
  rfl
theorem br_congr {k : Nat} {L L' : List Nat} (h : ∀ c b, br L c b = br L' c b) (c b : List Nat) : br (k :: L) c b = br (k :: L') c b := by
  by_cases q : k ∈ b
  · rw [br_in q, br_in q, h]
  · rw [br_out q, br_out q, h]
theorem br_rep {k : Nat} {L L' : List Nat} (h : ∀ c b, br L c b = br L' c b) : ∀ (m : Nat) (c b : List Nat), br (List.replicate (m + 1) k ++ L) c b = br (k :: L') c b
  | 0, c, b => br_congr h c b
  | m + 1, c, b => by
    have ih := br_rep (k := k) h m c b
    rw [List.replicate_succ, List.replicate_succ]
    show br (k :: k :: (List.replicate m k ++ L)) c b = _
    rw [br_dbl]
    exact ih
theorem br_hol {x : Nat} : ∀ {S : List (List Nat)} {k : Nat} (c b : List Nat), br (holR k S x) c b = br (holF k S x) c b
  | [], k, c, b => rfl
  | s :: S, k, c, b => by
    unfold holR holF
    by_cases q : x ∈ s
    · have h1 : s.contains x = true := by simpa using q
      obtain ⟨m, hm⟩ : ∃ m, s.count x = m + 1 := ⟨s.count x - 1, by have := List.count_pos_iff.mpr q; omega⟩
      rw [if_pos h1, hm]
      exact br_rep (fun c b => br_hol c b) m c b
    · have h1 : ¬ s.contains x = true := by simpa using q
      rw [if_neg h1, List.count_eq_zero.mpr q]
      exact br_hol c b
theorem holF_eq {x : Nat} : ∀ {S : List (List Nat)} {k : Nat}, holF k S x = (List.range' k S.length).filter (fun i => (S.getD (i - k) []).contains x)
  | [], k => by simp [holF]
  | s :: S, k => by
    have ih := holF_eq (x := x) (S := S) (k := k + 1)
    unfold holF
    rw [ih, List.length_cons, List.range'_succ, List.filter_cons]
    have e : (List.range' (k + 1) S.length).filter (fun i => (S.getD (i - (k + 1)) []).contains x) = (List.range' (k + 1) S.length).filter (fun i => ((s :: S).getD (i - k) []).contains x) := by
      refine List.filter_congr fun i hi => ?_
      have h1 := (List.mem_range'_1.mp hi).1
      obtain ⟨j, rfl⟩ : ∃ j, i = k + 1 + j := ⟨i - (k + 1), by omega⟩
      have e1 : k + 1 + j - (k + 1) = j := by omega
      have e2 : k + 1 + j - k = j + 1 := by omega
      rw [e1, e2]
      rfl
    rw [e]
    have e3 : ((s :: S).getD (k - k) []).contains x = s.contains x := by
      rw [Nat.sub_self]
      rfl
    rw [e3]
    split <;> simp
theorem hol_eq {S : List (List Nat)} {x : Nat} : hol S x = holF 0 S x := by
  rw [holF_eq, hol, List.range_eq_range']
  rfl
theorem br_holS {S : List (List Nat)} {x : Nat} (c b : List Nat) : br (holR 0 S x) c b = br (hol S x) c b := by rw [br_hol, hol_eq]
theorem mem_holR {x i : Nat} : ∀ {S : List (List Nat)} {k : Nat}, i ∈ holR k S x ↔ i ∈ holF k S x
  | [], k => Iff.rfl
  | s :: S, k => by
    unfold holR holF
    rw [List.mem_append, List.mem_append, mem_holR, List.mem_replicate]
    by_cases q : x ∈ s
    · have h1 : s.contains x = true := by simpa using q
      have hp := List.count_pos_iff.mpr q
      rw [if_pos h1]
      constructor
      · rintro (⟨_, rfl⟩ | z)
        · exact .inl (List.mem_singleton.mpr rfl)
        · exact .inr z
      · intro z
        rcases z with z | z
        · exact .inl ⟨by omega, List.mem_singleton.mp z⟩
        · exact .inr z
    · have h1 : ¬ s.contains x = true := by simpa using q
      rw [if_neg h1, List.count_eq_zero.mpr q]
      simp
theorem mem_holS {S : List (List Nat)} {x i : Nat} : i ∈ holR 0 S x ↔ i ∈ hol S x := by rw [mem_holR, hol_eq]
theorem nil_iff {α : Type} {L L' : List α} (h : ∀ i, i ∈ L ↔ i ∈ L') : L = [] ↔ L' = [] := by
  rw [List.eq_nil_iff_forall_not_mem, List.eq_nil_iff_forall_not_mem]
  exact ⟨fun z i hi => z i ((h i).mpr hi), fun z i hi => z i ((h i).mp hi)⟩
theorem nil_holS {S : List (List Nat)} {x : Nat} : holR 0 S x = [] ↔ hol S x = [] := nil_iff fun _ => mem_holS
theorem hit_holS {S : List (List Nat)} {x : Nat} {c : List Nat} (hc : ∀ k ∈ c, k < S.length) : c.any (holR 0 S x).contains = hit S x c := by
  unfold hit
  induction c with
  | nil => rfl
  | cons k c ih =>
    rw [List.any_cons, List.any_cons, ih fun j hj => hc j (List.mem_cons_of_mem _ hj)]
    congr 1
    have h1 := hc k List.mem_cons_self
    have h2 : (holR 0 S x).contains k = true ↔ holds S x k = true := by
      rw [List.contains_iff_mem, mem_holS, mem_hol]
      exact ⟨fun z => z.2, fun z => ⟨h1, z⟩⟩
    cases z1 : (holR 0 S x).contains k <;> cases z2 : holds S x k <;> rw [z1, z2] at h2 <;> simp at h2 <;> rfl
theorem holR_len {x : Nat} : ∀ {S : List (List Nat)} {k : Nat}, (∀ s ∈ S, s.length ≤ 5) → (holR k S x).length ≤ 5 * S.length
  | [], k, _ => Nat.zero_le _
  | s :: S, k, h => by
    have h1 := holR_len (x := x) (S := S) (k := k + 1) fun s hs => h s (List.mem_cons_of_mem _ hs)
    have h2 := h s List.mem_cons_self
    have h3 := List.count_le_length (a := x) (l := s)
    unfold holR
    rw [List.length_append, List.length_replicate, List.length_cons]
    omega
theorem hol_ne {S : List (List Nat)} {e : Nat} : hol S e ≠ [] ↔ ∃ s ∈ S, e ∈ s := by
  constructor
  · intro h
    obtain ⟨k, hk⟩ := List.exists_mem_of_ne_nil _ h
    obtain ⟨h1, h2⟩ := mem_hol.mp hk
    unfold holds at h2
    rw [List.getD_eq_getElem?_getD, List.getElem?_eq_getElem h1] at h2
    exact ⟨S[k], List.getElem_mem _, by simpa using h2⟩
  · rintro ⟨s, hs, he⟩ h
    obtain ⟨k, hk, e1⟩ := List.getElem_of_mem hs
    have : k ∈ hol S e := mem_hol.mpr ⟨hk, by
      unfold holds
      rw [List.getD_eq_getElem?_getD, List.getElem?_eq_getElem hk]
      simpa [e1] using he⟩
    rw [h] at this
    exact absurd this (by simp)
end WX
/-! WXD: setdefault of a dict of tuples, in over tuples of data, str of a text or an int. -/
namespace WXD
open PySem PySem.Spec PyProof.Rows L2 Wy
section
variable {X : Cx} {pins : List (Addr × Obj)} {σ : L2.St} {H : Hp} {s : Shared} {a b : Addr} {u r : Value} {d : V} {k : List Key} {A : Around} {E : Value → Shared → Prop}
theorem d_setdT {kvs : List (List Key × V)} {Q : Value → Shared → Prop} (hu : A.units + 1 < cLine) (I : Inv X pins σ H s) (e : H a = some (.dT kvs)) (eb : H b = some (.tup (k.map kV))) (rd : RelV d r) (hl : kvs.length < sizeLine)
    (h1 : ∀ v, valV kvs k = some v → ∀ (w' : Value) (s' : Shared), Inv X pins σ H s' → RelV v w' → Q w' s') (h2 : valV kvs k = none → ∀ (w' : Value) (s' : Shared), Inv X pins σ (upd H a (.dT (putK kvs k d))) s' → RelV d w' → Q w' s') :
    wpAny (model X.prog X.w) A (call (.builtin "dict.setdefault") [.ref a, .ref b, r]) Q E s := by
  obtain ⟨z, hd, xs, rel, dd⟩ := dt_of I.hok e
  have hz : xs.length ≤ sizeLine := by rw [← Paired.length rel]; exact z
  refine call_setdefault_heap (hsz := hz) (tupleKind_room_in1 hu) (key_of I.hok eb) hd dd (fun p hp => ?_) fun hn h' dd' hs => ?_
  · have q := rel.val k
    rw [hp] at q
    cases q0 : valV kvs k with
    | none => rw [q0] at q; exact (show False from q).elim
    | some v0 => rw [q0] at q; exact h1 v0 q0 _ _ (I.tok _) q
  · have q := rel.val k
    rw [hn] at q
    cases q0 : valV kvs k with
    | some v0 => rw [q0] at q; exact (show False from q).elim
    | none =>
      have hl2 : (putK kvs k d).length ≤ sizeLine := by
        have := length_putK kvs k d
        omega
      obtain ⟨ob, es, ep, hq, g2, g3, g4, _, g5⟩ := dd'
      refine h2 q0 _ _ (d_write I (by rw [e]; exact True.intro) hs ⟨ob, hq⟩ ⟨hl2, hd, _, (rel.put k eb rd).keeps fun c ys ec => ?_, ob, es, ep, hq, g2, g3, g4, g5⟩) rd
      rw [upd_ne (ne_of ec e (fun z => nomatch z))]
      exact ec
end
/-- d.setdefault(y, z), d a dict of tuples -/
def tDSetdT (td ty tx : TE) : TE := fun σ H Q => td σ H fun x H1 => ∃ a kvs0, x = .ref a ∧ H1 a = some (.dT kvs0) ∧ ty σ H1 fun y H2 => tx σ H2 fun z H3 => ∃ (kvs : List (List Key × V)) (k : List Key) (b : Addr), H3 a = some (.dT kvs) ∧ y = .ref b ∧ H3 b = some (.tup (k.map kV)) ∧ kvs.length < sizeLine ∧
  (∀ v, valV kvs k = some v → Q v H3) ∧ (valV kvs k = none → Q z (upd H3 a (.dT (putK kvs k z))))
section
variable {X : Cx} {o e f : Expr} {td ty tx : TE} {apos cpos : Pos}
theorem pe_dsetdT (hu : X.A.units + 1 < cLine) (ho : PE X o td) (he : PE X e ty) (hf : PE X f tx) (m : M2 X o "setdefault" apos e f cpos) : PE X (.Call (.Attribute o "setdefault" apos) [e, f] [] cpos) (tDSetdT td ty tx) := by
  refine ⟨fun pins s σ H Q I h => ?_⟩
  refine wpAny_Call_method m.base m.few m.line PySem.F.plainAttrs_dict PySem.F.slot_dict_setdefault PySem.F.type_dict_setdefault (thn (ho.run pins s σ H _ I h) fun u s1 ⟨x, H1, I1, rx, a, kvs0, ex, d, q1⟩ => ?_)
  subst ex
  obtain rfl : u = Value.ref a := rx
  obtain ⟨t1, t2, _⟩ := isD_at I1 (.inr ⟨kvs0, .inl d⟩)
  refine ⟨t1, t2, ?_⟩
  rw [m.trees]
  refine Calls.callWith_builtin rfl (Calls.evalArgs_plain (Calls.spliced_cons (thn (he.run pins s1 σ H1 _ I1 q1) fun iv s2 ⟨y, H2, I2, ry, q2⟩ =>
    Calls.spliced_cons (thn (hf.run pins s2 σ H2 _ I2 q2) fun fv s3 ⟨z, H3, I3, rz, kvs, k, b, ea, ey, eb, hl, q3, q4⟩ => Calls.spliced_nil ?_))))
  subst ey
  obtain rfl : iv = Value.ref b := ry
  exact d_setdT hu I3 ea eb rz hl (fun v hv w' s4 I4 rw' => ⟨v, _, I4, rw', q3 v hv⟩) fun hn w' s4 I4 rw' => ⟨z, _, I4, rw', q4 hn⟩
end
/-! ### x in t, t a tuple or list of data -/
def rInT (K : PySem.W.Frag) (neg : Bool) : R2 := fun x y H Q => ∃ d ds, Dp K H x d ∧ Dp K H y (.tuple ds) ∧ SeqAt.shaped d = true ∧ SeqAt.shaped (.tuple ds) = true ∧ Q (.bl (if neg then !ds.any fun z => PyData.eqv z d else ds.any fun z => PyData.eqv z d)) H
section
variable {X : Cx}
theorem op_inT (hu : X.A.units + 65 < cLine) : OpR X (compareOp .In) (rInT X.K false) := by
  intro pins s σ H x y v u Q I rx ry h
  obtain ⟨d, ds, hd, he, sd, se, q⟩ := h
  obtain ⟨as, r1⟩ := Dp.reads I d x v hd rx
  obtain ⟨bs, r2⟩ := Dp.reads I (.tuple ds) y u he ry
  exact SeqAt.in_tuple_reads r2 r1 (SeqAt.canLay_of_shaped se) (SeqAt.canLay_of_shaped sd) (room_in_shaped sd hu) ⟨.bl _, H, I, rfl, q⟩
theorem op_notInT (hu : X.A.units + 65 < cLine) : OpR X (compareOp .NotIn) (rInT X.K true) := by
  intro pins s σ H x y v u Q I rx ry h
  obtain ⟨d, ds, hd, he, sd, se, q⟩ := h
  obtain ⟨as, r1⟩ := Dp.reads I d x v hd rx
  obtain ⟨bs, r2⟩ := Dp.reads I (.tuple ds) y u he ry
  exact SeqAt.notIn_tuple_reads r2 r1 (SeqAt.canLay_of_shaped se) (SeqAt.canLay_of_shaped sd) (room_in_shaped sd hu) ⟨.bl _, H, I, rfl, q⟩
def rStrA : List V → Hp → VK → Prop := fun xs H Q => (∃ i, xs = [.int i] ∧ i.natAbs.log2 < 1920 ∧ Q (.str (toString i)) H) ∨ ∃ a, xs = [.str a] ∧ Q (.str a) H
theorem call_strA : CallR X (.type "str") rStrA := by
  intro pins s σ H xs us Q I r h
  rcases h with ⟨i, rfl, hz, q⟩ | ⟨a, rfl, q⟩
  · obtain ⟨u, rfl, t, rfl⟩ := vals1 r
    exact PySem.P.str_of_int hz ⟨.str _, H, I.tok _, ⟨_, rfl⟩, q⟩
  · obtain ⟨u, rfl, t, rfl⟩ := vals1 r
    exact PySem.P.str_of_str ⟨.str a, H, I, ⟨t, rfl⟩, q⟩
end
open WN WQ WS WC WE
/-! ### steps -/
section
variable {X : Cx}
def rAnyB (K : PySem.W.Frag) : List V → Hp → VK → Prop := rAny K
theorem cc_any (X : Cx) (h : X.calm = true) : CallR X (.builtin "any") (rAnyB X.K) := cr_any h
def rSortS (K : PySem.W.Frag) : List V → Hp → VK → Prop := rSortedS K
theorem cc_sortedS (X : Cx) (_ : X.calm = true) : CallR X (.builtin "sorted") (rSortS X.K) := cr_sortedS
end
section
variable {K : PySem.W.Frag} {σ : L2.St} {H : Hp} {Q : VK} {te td ty tx : TE} {tt : TT} {a l b : Addr} {xs ys : List V} {y : V} {vs : List Nat} {i : Nat} {J : It}
theorem e_setd (h : td σ H fun x H1 => ∃ a kvs0, x = .ref a ∧ H1 a = some (.dT kvs0) ∧ ty σ H1 fun y H2 => tx σ H2 fun z H3 => ∃ (kvs : List (List Key × V)) (k : List Key) (b : Addr), H3 a = some (.dT kvs) ∧ y = .ref b ∧ H3 b = some (.tup (k.map kV)) ∧ kvs.length < sizeLine ∧
  (∀ v, valV kvs k = some v → Q v H3) ∧ (valV kvs k = none → Q z (upd H3 a (.dT (putK kvs k z))))) : tDSetdT td ty tx σ H Q := h
theorem e_dnewT (h : ∀ p H2, H p = none → Same H H2 → H2 p = some (.dT []) → Q (.ref p) H2) : tDNewT σ H Q := fun p np => h p _ np (same_new np) upd_same
theorem e_din (h : ty σ H fun y H1 => td σ H1 fun x H2 => ∃ a o, x = .ref a ∧ DGet H2 a y o ∧ Q (.bl o.isSome) H2) : tDIn ty td σ H Q := h
theorem e_dnotin (h : ty σ H fun y H1 => td σ H1 fun x H2 => ∃ a o, x = .ref a ∧ DGet H2 a y o ∧ Q (.bl (!o.isSome)) H2) : tDNotIn ty td σ H Q := h
theorem kd_t {kvs : List (List Key × V)} {k : List Key} {v : V} (e : H a = some (.dT kvs)) (eb : H b = some (.tup (k.map kV))) (g : valV kvs k = some v) (h : Q v H) : WD.KD (.ref a) (.ref b) H Q :=
  ⟨a, v, rfl, g ▸ DGet.t e eb, h⟩
theorem e_lockE {u : HO} (e : H a = some u) (m : Mut (some u)) (h : ∀ od H1, H1 a = some (.frz od u) → (∀ b o, b ≠ a → H b = some o → H1 b = some o) → (∀ b, H1 b = none → H b = none) →
    te σ H1 fun v H' => H' a = some (.frz od u) ∧ Q v (upd H' a u)) : tLockE te σ H Q := ⟨a, u, e, m, fun od => h od _ upd_same (fun b o n q => by rw [upd_ne n]; exact q) fun b q => by
  by_cases n : b = a
  · subst n
    rw [upd_same] at q
    cases q
  · rwa [upd_ne n] at q⟩
theorem b_sortS {xs : List Str} (hs : SqL K H a (xs.map V.str)) (hz : xs.length < 64) (h : ∀ p H2 (zs : List Str), zs.Perm xs → H p = none → Same H H2 → H2 p = some (.lst (zs.map V.str)) → Q (.ref p) H2) : rSortS K [.ref a] H Q :=
  ⟨a, xs, rfl, hs, hz, fun zs p hp _ np => h p _ zs hp np (same_new np) upd_same⟩
theorem c_strI {i : Int} (hz : i.natAbs < 10 ^ 40) (h : Q (.str (toString i)) H) : rStrA [.int i] H Q := .inl ⟨i, rfl, log_small hz, h⟩
theorem c_strS {x : Str} (h : Q (.str x) H) : rStrA [.str x] H Q := .inr ⟨x, rfl, h⟩
/-- the keys of a dict of texts, each as a text -/
theorem c_keys {od : Obj} {kvs : List (Key × V)} (e : H a = some (.frz od (.dK kvs))) (hk : ∀ q ∈ kvs, ∃ x, q.1 = .inr x) (hz : kvs.length ≤ 100000) (hw : ∀ x, wipe ((wipe σ vs).set i (some x)) vs = wipe σ vs)
    (hte : ∀ x H1 (N : VK), Same H H1 → N (.str x) H1 → te ((wipe σ vs).set i (some (.str x))) H1 N)
    (post : ∀ D H2 (xs : List Str), H D = none → Same H H2 → H2 D = some (.lst (xs.map V.str)) → kvs.map (·.1) = xs.map Sum.inr → Q (.ref D) H2) : LoopC (Itk a od kvs) (gName i) tYes te vs σ H Q := by
  refine WO.c_it walk_keys (fun D i acc H1 => ∃ xs : List Str, acc = xs.map V.str ∧ (kvs.take i).map (·.1) = xs.map Sum.inr) (fun H' s => s _ _ e) (fun i H1 x H2 y => by rw [y.1]; exact Same.refl _) (small1000' hz)
    (fun D i acc H1 r => ?_) (fun D i acc H1 H2 c y r => r) (fun D H1 nD s1 e1 => ⟨[], rfl, rfl⟩) (fun D i x H1 H2 acc N M hi nD s1 e1 r y s2 hN hM => ?_) (fun D H2 ys nD s2 e2 r => ?_)
  · obtain ⟨xs, rfl, h2⟩ := r
    have := congrArg List.length h2
    rw [List.length_map, List.length_map, List.length_take] at this
    rw [List.length_map]
    omega
  · obtain ⟨xs, rfl, h2⟩ := r
    obtain ⟨rfl, k, v, g, rfl⟩ := y
    obtain ⟨z, hz⟩ := hk _ (List.mem_of_getElem? g)
    have hz : k = .inr z := hz
    subst hz
    refine g_name ⟨hw _, t_yes ?_⟩
    refine iteTT rfl (hte z H2 _ s1 (hN _ _ (Same.refl _) ⟨xs ++ [z], by rw [List.map_append]; rfl, ?_⟩))
    rw [List.take_add_one, g, List.map_append, h2, List.map_append]
    rfl
  · obtain ⟨xs, rfl, h2⟩ := r
    rw [List.take_of_length_le (Nat.le_refl _)] at h2
    exact post D H2 xs nD s2 e2 h2
theorem e_dgetT (h : td σ H fun x H1 => ty σ H1 fun y H2 => ∃ a v, x = .ref a ∧ DGet H2 a y (some v) ∧ Q v H2) : tDGet td ty σ H Q := h
theorem m_bm0 {T : String} {r : V → List V → Hp → VK → Prop} (h : te σ H fun x H1 => tyV K T x H1 ∧ r x [] H1 Q) : tBM0 K T r te σ H Q := h
theorem m_pop (e : H l = some (.lst (xs ++ [y]))) (h : ∀ H2, Chg l H H2 → H2 l = some (.lst xs) → Q y H2) : rPop (.ref l) [] H Q :=
  ⟨l, _, y, rfl, rfl, e, by simp, h _ chg_upd (by rw [List.dropLast_concat]; exact upd_same)⟩
theorem m_ext (e : H l = some (.lst xs)) (e2 : H b = some (.lst ys)) (hz : xs.length + ys.length ≤ sizeLine) (h : ∀ H2, Chg l H H2 → H2 l = some (.lst (xs ++ ys)) → Q .non H2) : rExtend (.ref l) [.ref b] H Q :=
  ⟨l, b, xs, ys, rfl, rfl, e, e2, hz, h _ chg_upd upd_same⟩
theorem b_any {bs : List Bool} (hs : SqL K H a (bs.map V.bl)) (h : Q (.bl (bs.any id)) H) : rAnyB K [.ref a] H Q := ⟨a, bs, rfl, hs, h⟩
/-- items of a list that pass a test, and what is made of each: as data -/
theorem c_sel {α : Type} {F G : α → PyData} {p : α → Bool} {us : List V} {zs : List α} (hJ : SqIt K a us J H) (t : TpAll H us (zs.map F)) (hz : zs.length ≤ 100000) (hw : ∀ x, wipe ((wipe σ vs).set i (some x)) vs = wipe σ vs)
    (ht : ∀ x u H1 (N : Bool → Hp → Prop), x ∈ zs → Tp H1 u (F x) → Same H H1 → (∀ H3, Same H1 H3 → N (p x) H3) → tt ((wipe σ vs).set i (some u)) H1 N)
    (hte : ∀ x u H1 (N : VK), x ∈ zs → p x = true → Tp H1 u (F x) → Same H H1 → (∀ y H3, Same H1 H3 → Tp H3 y (G x) → N y H3) → te ((wipe σ vs).set i (some u)) H1 N)
    (post : ∀ D H2 ys, H D = none → Same H H2 → H2 D = some (.lst ys) → TpAll H2 ys ((zs.filter p).map G) → Q (.ref D) H2) : LoopC J (gName i) tt te vs σ H Q := by
  have hl : us.length = zs.length := by have := t.length; rw [List.length_map] at this; exact this
  refine c_acc hJ (fun i acc H => TpAll H acc (((zs.take i).filter p).map G)) (fun i acc H H' k h => h.tk k) (fun i acc H hi h => ?_) .nil (fun j x H1 acc N M hx s1 r hN hM => ?_) (fun D H2 ys nD s2 e2 r => ?_)
  · have h1 := h.length
    have h2 := List.length_filter_le p (zs.take i)
    rw [List.length_map] at h1
    rw [List.length_take] at h2
    exact small1000' (by omega)
  · obtain ⟨z, hz1, tz⟩ := tpGet t hx
    have hm : z ∈ zs := List.mem_of_getElem? hz1
    have ek : zs.take (j + 1) = zs.take j ++ [z] := by
      rw [List.take_add_one, hz1]; rfl
    refine g_name ⟨hw _, ht z x H1 _ hm (tz.tk s1.tk) s1 fun H3 s3 => ?_⟩
    by_cases hp : p z = true
    · refine iteTT hp ?_
      refine hte z x H3 _ hm hp (tz.tk (s1.trans s3).tk) (s1.trans s3) fun y H4 s4 ty => hN y H4 (s3.trans s4) ?_
      show TpAll H4 (acc ++ [y]) _
      rw [ek, List.filter_append, List.filter_cons_of_pos hp, List.filter_nil, List.map_append]
      exact tpSnoc (r.tk (s3.trans s4).tk) ty
    · refine iteFF (Bool.eq_false_iff.mpr hp) (hM H3 s3 ?_)
      show TpAll H3 acc _
      rw [ek, List.filter_append, List.filter_cons_of_neg hp, List.filter_nil, List.append_nil]
      exact r.tk s3.tk
  · rw [hl, List.take_of_length_le (Nat.le_refl _)] at r
    exact post D H2 ys nD s2 e2 r
end
end WXD
/-! WV: split, startswith, a def as a value, a statement that is never reached. -/
namespace WV
open PySem PySem.Spec PyProof.Rows L2 Wy
section
variable {X : Cx}
def rSplit1 : V → List V → Hp → VK → Prop := fun x xs H Q => ∃ a b, x = .str a ∧ xs = [.str b] ∧ (b.length == 0) = false ∧ a.length + 2 ≤ sizeLine ∧ rNewStrs (Txt.split a b) H Q
theorem mt_split1 : MtR X "str.split" rSplit1 := mt_split
def rStarts : V → List V → Hp → VK → Prop := fun x xs H Q => ∃ a b, x = .str a ∧ xs = [.str b] ∧ Q (.bl (Txt.startswith a b)) H
theorem mt_starts : MtR X "str.startswith" rStarts := mt_startswith
theorem pe_joinK {K : PySem.W.Frag} {o e : Expr} {to te : TE} {apos pos : Pos} (ho : PE X o to) (he : PE X e te) (hK : X.K = K := by rfl) (hs : starEach [e] X.env = [(false, eval e X.env)] := by rfl) (hbase : attributeBase o "join" X.env (eval o X.env) = eval o X.env := by rfl) (hline : (apos.endLine == pos.line) = true := by rfl) :
    PE X (.Call (.Attribute o "join" apos) [e] [] pos) (tM1 (rJoin K) to te) := hK ▸ pe_join2 ho he hs hbase hline
/-- a statement that is never reached -/
theorem ps_never {st : Stmt} : PS X st (fun _ _ _ => False) := ⟨fun pins s σ H D I h => h.elim⟩
noncomputable def fAt {K : PySem.W.Frag} {mg : Str → Option Value} {x : Str} {st : Stmt} (F : DefOk K mg x st) : Addr := F.ex.choose
theorem fAt_mg {K : PySem.W.Frag} {mg : Str → Option Value} {x : Str} {st : Stmt} (F : DefOk K mg x st) : mg x = some (.ref (fAt F)) := F.ex.choose_spec.choose_spec.2
theorem fAt_ne {K : PySem.W.Frag} {mg : Str → Option Value} {x y : Str} {st st' : Stmt} (F : DefOk K mg x st) (G : DefOk K mg y st') (h : x ≠ y) : fAt F ≠ fAt G := fun e => by
  have h1 := F.ex.choose_spec.choose_spec.1
  have h2 := G.ex.choose_spec.choose_spec.1
  have e : F.ex.choose = G.ex.choose := e
  generalize F.ex.choose_spec.choose = fd1 at h1
  generalize G.ex.choose_spec.choose = fd2 at h2
  rw [e] at h1
  obtain ⟨oc, od, dV, kV, doc, pm, an, cdv, ct, osl, e1, l1, _⟩ := h1.ex
  obtain ⟨oc2, od2, dV2, kV2, doc2, pm2, an2, cdv2, ct2, osl2, e2, l2, _⟩ := h2.ex
  rw [l1] at l2
  have e3 := Option.some.inj l2
  have e4 : fd1 = fd2 := by
    have e5 := congrArg Obj.data e3
    injection e5
  rw [e1, e2] at e4
  exact h (congrArg FuncData.name e4)
/-- the promise of a def, by its address -/
theorem held_of {P : Program} {w : World} {K : PySem.W.Frag} {mg : Str → Option Value} {base : Heap} {k : Nat} {x : Str} {st : Stmt} {sp : Sp} (F : DefOk K mg x st) (c : C8.Cal P w K mg base k x sp []) : Held P w K mg base k (fAt F) sp := by
  obtain ⟨f, fd, ps, ds, h1, h2, h3, h4, h5⟩ := c.ex
  have e := fAt_mg F
  rw [h2] at e
  cases e
  cases h5
  exact ⟨fd, ps, h1, h3, h4⟩
theorem pe_fn {x : Str} {st : Stmt} {p : Pos} (F : DefOk X.K X.mg x st) (hg : Gl X x) (hdb : (x == ("__debug__" : Str)) = false := by decide) : PE X (.Name x p) (tC (.ref (fAt F))) := C8.pe_gc hg ⟨_, fAt_mg F, rfl⟩ hdb
end
section
variable {σ : L2.St} {H : Hp} {Q : VK}
theorem m_split {a b : Str} (hb : (b.length == 0) = false) (hz : a.length + 2 ≤ sizeLine) (h : ∀ p H2, H p = none → Same H H2 → H2 p = some (.lst ((Txt.split a b).map V.str)) → Q (.ref p) H2) : rSplit1 (.str a) [.str b] H Q := ⟨a, b, rfl, rfl, hb, hz, new_same h⟩
theorem m_starts {a b : Str} (h : Q (.bl (Txt.startswith a b)) H) : rStarts (.str a) [.str b] H Q := ⟨a, b, rfl, rfl, h⟩
theorem e_callA {i : Nat} {f : Addr} {sp : Sp} {S : Addr → Option Sp} {t : TA} (hs : σ[i]? = some (some (.ref f))) (hS : S f = some sp) (h : t σ H fun vs H1 => sp vs H1 Q (fun _ _ _ => False)) : tCallA i S t σ H Q := ⟨f, sp, hs, hS, h⟩
end
end WV
/-! WL: a lambda of one parameter that is handed on, with one captured name. -/
namespace WL
open PySem PySem.Spec PyProof.Rows L2 Wy LamX
/-- a lambda that was made -/
structure Jd where
  f : Addr
  c' : Addr
  q : Str
  params : Arguments
  body : Expr
  scope : Scope
  cl : List (Str × Addr)
  pm : Value
  ctv : Value
  x : Str
  z : Str
  cz : Addr
  pv : V
abbrev Jd.fd (J : Jd) : FuncData := PySem.W.kla_fn "<lambda>" J.q J.params J.body J.scope J.cl J.pm (.ref J.c') J.ctv
abbrev Jd.ob (J : Jd) : Obj := PySem.W.kla_obj "<lambda>" J.q J.params J.body J.scope J.cl J.pm J.c' J.ctv
/-- its names: the parameter and the captured one -/
structure Jd.Ok (J : Jd) : Prop where
  kind : J.scope.kind = .function
  co : J.scope.isCoroutine = false
  gen : J.scope.isGenerator = false
  ne : J.x ≠ J.z
  hx : J.scope.names.lookup J.x = some .local
  nocell : ∀ y ∈ J.scope.names, y.2 ≠ .cell
  own : ∀ y, J.scope.names.lookup y = some .local → y = J.x
  free : ∀ y, J.scope.names.lookup y = some .free → y = J.z
  cl1 : ∀ y c, J.cl.lookup y = some c → y = J.z ∧ c = J.cz
  cl2 : J.cl.lookup J.z = some J.cz
  bind : ∀ u : Value, bindArgs J.fd ⟨[u], []⟩ = pure [(J.x, u)]
/-- it stands in the heap -/
structure There (J : Jd) (s : Shared) (H : Hp) (fs : List Addr) : Prop where
  ob : s.heap.get? J.f = some J.ob
  nH : H J.f = none
  nf : J.f ∉ fs
  cell : ∃ u, RelV J.pv u ∧ s.heap.IsCell J.cz (some u)
  nC : H J.cz = none
  code : H J.c' = some (CodeO J.c' J.q)
theorem There.step {J : Jd} {s s' : Shared} {H H' : Hp} {fs fs' : List Addr} (t : There J s H fs) (u : Un fs [] H H' s.heap s'.heap) (hc : H' J.c' = some (CodeO J.c' J.q)) (hn : J.f ∉ fs') : There J s' H' fs' := by
  obtain ⟨v, r, o, ho, hd⟩ := t.cell
  obtain ⟨sl, q⟩ := u.any ho t.nC (by simp)
  exact ⟨u.keep _ _ t.ob t.nH t.nf (by simp), u.free _ _ t.ob t.nH (by simp), hn, ⟨v, r, _, q, hd⟩, u.free _ _ ho t.nC (by simp), hc⟩
abbrev Jd.env (J : Jd) (L : Addr) : Env := PySem.W.envX J.q J.scope L J.f (.ref J.c') J.cl
/-- the context of its body -/
def lamC (J : Jd) (P : Program) (w : World) (K : PySem.W.Frag) (mg : Str → Option Value) (base : Heap) (A : Around) (outer : List Env) (s : Shared) (H : Hp) : Cx where
  prog := P
  w := w
  K := K
  mg := mg
  base := base
  A := A.deeper (J.env s.heap.objs.size)
  N := [J.x, J.z]
  s_0 := s
  H_0 := H
  env := J.env s.heap.objs.size
  outer := outer
  stack := J.env s.heap.objs.size :: outer
  ex := []
  fn := fun _ => false
  calm := true
  pn := []
  xe := fun e s' => wpAny (model P w) (A.deeper (J.env s.heap.objs.size)) (leaving (J.env s.heap.objs.size) e) (fun _ _ => False) (fun _ _ => False) s'
section
variable {P : Program} {w : World} {K : PySem.W.Frag} {mg : Str → Option Value} {base : Heap}
theorem lam_inv {J : Jd} (ok : J.Ok) {A : Around} {outer : List Env} {s : Shared} {H : Hp} {h₁ : Heap} {tk : Nat} {v : V} {u : Value} (th : There J s H (frs outer)) (e0 : Env0 P w K mg base A outer s H) (hd : A.handled = none) (rv : RelV v u)
    (hns : h₁.Ns s.heap.objs.size fun y => ([(J.x, u)] : List (Str × Value)).reverse.lookup y) (kp : ∀ b o, s.heap.get? b = some o → h₁.get? b = some o) :
    Inv (lamC J P w K mg base A outer s H) [] [some v, some J.pv] H { s with heap := h₁, toks := tk } := by
  have noA : ∀ b : Addr, b ∉ (lamC J P w K mg base A outer s H).ex := fun b z => absurd (show b ∈ ([] : List Addr) from z) (by simp)
  obtain ⟨uz, rz, oz, hoz, hdz⟩ := th.cell
  refine ⟨⟨e0.mod, ok.kind, rfl, rfl, Nat.le_refl _, fun y z c e1 e2 => ?_, fun y hy => ?_, fun y c z _ => ?_, fun _ => hd, Around.frames_deeper e0.frames, .inr ⟨rfl, rfl⟩, fun b z => absurd z (noA b), e0.bs, e0.bsz, fun b _ _ => noA b,
      fun b z => absurd z (noA b), e0.funs, e0.frf⟩,
    rfl, e0.bare, Un.kept kp, ⟨_, hns, fun i y v' e1 e2 e3 => ?_⟩, fun y c e => ?_, e0.hok.fresh (Nat.le_refl _), fun y c e => ?_, fun q hq => absurd (show q ∈ ([] : List (Addr × Obj)) ++ [] from hq) (by simp), e0.hok.kept kp, rfl⟩
  · have h1 : J.cl.lookup y = some c := e1
    have h2 : J.cl.lookup z = some c := e2
    rw [(ok.cl1 _ _ h1).1, (ok.cl1 _ _ h2).1]
  · have hy : J.scope.names.lookup y = some .cell ∨ J.scope.names.lookup y = some .free := hy
    rcases hy with hy | hy
    · exact absurd rfl (ok.nocell _ (PySem.mem_of_lookup hy))
    · rw [ok.free y hy]
      exact ⟨J.cz, ok.cl2⟩
  · have z : false = true := z
    cases z
  · have e1 : ([J.x, J.z] : List Str)[i]? = some y := e1
    have e3 : Vis J.scope y := e3
    rcases e3 with k | k | k
    · have hy := ok.own y k
      match i, e1 with
      | 0, e1 =>
        cases e2
        refine ⟨u, rv, .inl ⟨k, ?_⟩⟩
        show ([(J.x, u)] : List (Str × Value)).reverse.lookup y = some u
        rw [hy]
        simp [List.lookup]
      | 1, e1 =>
        cases e1
        exact absurd hy ok.ne.symm
      | i + 2, e1 => simp at e1
    · exact absurd rfl (ok.nocell _ (PySem.mem_of_lookup k))
    · have hy := ok.free y k
      match i, e1 with
      | 0, e1 =>
        cases e1
        exact absurd hy ok.ne
      | 1, e1 =>
        cases e2
        rw [hy]
        rw [hy] at k
        exact ⟨uz, rz, .inr ⟨.inr k, J.cz, ok.cl2, _, kp _ _ hoz, hdz⟩⟩
      | i + 2, e1 => simp at e1
  · obtain ⟨_, rfl⟩ := ok.cl1 y c e
    exact ⟨some uz, _, kp _ _ hoz, hdz⟩
  · obtain ⟨_, rfl⟩ := ok.cl1 y c e
    exact th.nC
/-- the lambda called -/
theorem lam_run {J : Jd} (ok : J.Ok) {k : Nat} {tb : TE} {A : Around} {outer : List Env} {s : Shared} {H : Hp} {v : V} {u : Value} {Q : VK} {E : XK} (th : There J s H (frs outer)) (e0 : Env0 P w K mg base A outer s H) (hr : Room (k + 1) A) (rv : RelV v u)
    (hbody : ∀ (s : Shared) (H : Hp), Room k (A.deeper (J.env s.heap.objs.size)) → PE (lamC J P w K mg base A outer s H) J.body tb) (q : tb [some v, some J.pv] H Q) :
    codeAny (model P w) A (.call (.ref J.f) ⟨[u], []⟩) (CR C8.CX0 outer P w H s Q E) s := by
  have lim : s.heap.NoLimit := e0.mod.nolimit.keeps fun b o e => (e0.bs b o e).1
  obtain ⟨⟨oc, vs, t, hoc, hdc, hvc⟩, _, _⟩ := e0.hok J.c' _ th.code
  refine PySem.W.kla_callFunE hr.depth th.ob rfl ok.co ok.gen rfl ⟨J.c', oc, vs, t, rfl, hoc, hdc, hvc⟩ ?_
  rw [ok.bind]
  refine wpAny_pure (wpAny_newFunctionEnv ok.nocell (fun y hy => ?_) (fun h₁ hns hsb => ⟨lim.fresh _ hsb, ?_⟩) ok.kind)
  · rw [List.mem_singleton.mp hy]
    exact ok.hx
  show codeAny _ _ (.expr J.body (J.env s.heap.objs.size)) _ _
  have kp : ∀ b o, s.heap.get? b = some o → h₁.get? b = some o := fun b o e => hsb.extBut b o (Nat.ne_of_lt (Heap.lt_size e)) (Heap.get?_push_of_some _ e)
  have I := lam_inv (P := P) (w := w) (K := K) (mg := mg) (base := base) (tk := s.toks + ([(J.x, u)] : List (Str × Value)).length) ok th e0 hr.hd rv hns kp
  refine PySem.W.kla_codeExpr (wpAny_mono ((hbody s H (hr.deeper _)).run [] _ _ H Q I q) (fun v s' hq => ?_) fun e s' hq => hq)
  obtain ⟨w', H', J', rv', q'⟩ := hq
  exact ⟨w', H', J'.os, J'.bare, J'.base, J'.hok, rv', q'⟩
end

/-! ### defs that get such a lambda -/
structure FnJ (P : Program) (w : World) (K : PySem.W.Frag) (mg : Str → Option Value) (base : Heap) (J : Jd) (k : Nat) (f : Addr) (fd : FuncData) (ps : List Str) (sp : Sp) : Prop where
  len : ∀ vs H Q E, sp vs H Q E → vs.length = ps.length
  run : ∀ (A : Around) (outer : List Env) (s : Shared) (H : Hp) (args : Args) (us : List Value) (vs : List V) (Q : VK) (E : XK), Room k A → There J s H (frs outer) → Env0 P w K mg base A outer s H →
    BindsTo s fd args (ps.zip us) → Vals vs us → sp vs H Q E → codeAny (model P w) A (.call (.ref f) args) (CR C8.CX0 outer P w H s Q E) s
structure CalJ (P : Program) (w : World) (K : PySem.W.Frag) (mg : Str → Option Value) (base : Heap) (J : Jd) (k : Nat) (x : Str) (sp : Sp) : Prop where
  ex : ∃ (f : Addr) (fd : FuncData) (ps : List Str), FnJ P w K mg base J k f fd ps sp ∧ mg x = some (.ref f) ∧ PySem.W.keepIn K (.ref f) = true ∧ Binds K fd ps []
section
variable {P : Program} {w : World} {K : PySem.W.Frag} {mg : Str → Option Value} {base : Heap} {J : Jd} {k : Nat} {x : Str} {st : Stmt} {N ps : List Str} {sp : Sp}
theorem cal_ofJ (F : DefOk K mg x st) (S : FnScope N ps (defScope st)) (hb : ∀ f fd, FunD K x x (defArgs st) (defBody st) (defScope st) [] [] f fd → Binds K fd ps []) (len : ∀ vs H Q E, sp vs H Q E → vs.length = ps.length)
    (body : ∀ (f : Addr) (cdv : Value) (A : Around) (outer : List Env) (s : Shared) (H : Hp) (vs : List V) (Q : VK) (E : XK), Room k (A.deeper (envOfC x (defScope st) s.heap.objs.size f cdv)) → There J s H (frs outer) → sp vs H Q E →
      ∃ t, PSs (cxOf C8.CX0 P w K mg base N x (defScope st) f cdv A outer s H E).nox (defBody st) t ∧ t { nx := fun _ H' => Q .non H', rt := Q } (start N vs) H) : CalJ P w K mg base J (k + 1) x sp := by
  obtain ⟨f, fd, F, hm⟩ := F.ex
  refine ⟨f, fd, ps, ?_, hm, F.kp, hb f fd F⟩
  obtain ⟨oc, od, dV, kV, doc, pm, an, cdv, ct, osl, rfl, lk, hcd, _, _⟩ := F.ex
  constructor
  · exact len
  · intro A outer s H args us vs Q E room th env bd rel told
    have stays : ∀ (b : Addr) (o : Obj), base.get? b = some o → s.heap.get? b = some o := fun b o q => (env.bs b o q).1
    have count := len vs H Q E told
    have heap : K.In s.heap := env.mod.kin.keeps stays
    refine codeAny_call_function room.depth (heap _ _ lk) rfl S.co S.gen rfl (PySem.W.codeRec_of heap hcd) ?_
    refine bd _ _ _ _ (wpAny_newFunctionEnv_cells S.kind ?kinds fun e he s1 made => ?_)
    case kinds =>
      intro y hy
      cases S.par y.1 (List.of_mem_zip (a := y.1) (b := y.2) hy).1 with
      | inl q => exact Or.inl q
      | inr q => exact Or.inr (And.intro q (PySem.W.cellsFrom_some _ _ _ (Or.inl q)))
    subst he
    have nolim : s.heap.NoLimit := env.mod.nolimit.keeps stays
    refine And.intro (nolim.keeps made.toInCall.keep) (codeAny_func ?_)
    obtain ⟨t, d, rd⟩ := body f cdv A outer s H vs Q E (room.deeper _) th told
    have inv := inv_start (CX := C8.CX0) (E := E) S room.hd env count rel made
    have ran := (PSs.nox d).run [] s1 (start N vs) H _ inv rd
    refine wpAny_mono ran (fun fl s' out => ?_) (fun e s' out => out)
    match fl, out with
    | .ret u, ⟨v, _, H', J', r, z⟩ => exact ⟨v, H', J'.os, J'.bare, J'.base, J'.hok, r, z⟩
    | .next, ⟨_, H', J', z⟩ => exact ⟨.non, H', J'.os, J'.bare, J'.base, J'.hok, rfl, z⟩
    | .brk, ⟨_, _, _, z⟩ => exact z.elim
    | .cont, ⟨_, _, _, z⟩ => exact z.elim
theorem cal_neverJ (F : DefOk K mg x st) (hb : ∀ f fd, FunD K x x (defArgs st) (defBody st) (defScope st) [] [] f fd → Binds K fd ps []) (no : ∀ vs H Q E, ¬ sp vs H Q E) : CalJ P w K mg base J k x sp := by
  obtain ⟨f, fd, F, hm⟩ := F.ex
  exact ⟨f, fd, ps, ⟨fun vs H Q E h => absurd h (no vs H Q E), fun A outer s H args us vs Q E _ _ _ _ _ h => absurd h (no vs H Q E)⟩, hm, F.kp, hb f fd F⟩
/-- the lambda, where it was got -/
abbrev Zc (P : Program) (w : World) (K : PySem.W.Frag) (mg : Str → Option Value) (base : Heap) (N : List Str) (qual : Str) (scope : Scope) (f : Addr) (cdv : Value) (A : Around) (outer : List Env) (s : Shared) (H : Hp) (E : XK) : Cx := (cxOf C8.CX0 P w K mg base N qual scope f cdv A outer s H E).nox
def HasC (J : Jd) (H : Hp) : Prop := H J.c' = some (CodeO J.c' J.q)
def tJudge (J : Jd) (i : Nat) (tb : TE) (ta : TA) : TE := fun σ H Q => σ[i]? = some (some (.ref J.f)) ∧ ta σ H fun vs H1 => ∃ v, vs = [v] ∧ HasC J H1 ∧ tb [some v, some J.pv] H1 Q
def tCallJ (J : Jd) (sp : Sp) (ta : TA) : TE := fun σ H Q => ta σ H fun vs H1 => HasC J H1 ∧ sp vs H1 Q C8.E0
variable {qual : Str} {scope : Scope} {f : Addr} {cdv : Value} {A : Around} {outer : List Env} {s : Shared} {H : Hp} {E : XK}
theorem there_at (th : There J s H (frs outer)) {pins : List (Addr × Obj)} {σ : L2.St} {H1 : Hp} {s1 : Shared} (I : Inv (Zc P w K mg base N qual scope f cdv A outer s H E) pins σ H1 s1) (hc : HasC J H1) : There J s1 H1 (frs (Zc P w K mg base N qual scope f cdv A outer s H E).stack) := by
  refine th.step I.base hc fun hm => ?_
  have hm : J.f ∈ s.heap.objs.size :: frs outer := hm
  rcases List.mem_cons.mp hm with e | hm
  · have := Heap.lt_size th.ob
    rw [e] at this
    exact absurd this (Nat.lt_irrefl _)
  · exact th.nf hm
theorem pe_judge {y : Str} {i j : Nat} {p pos : Pos} {e : Expr} {tb : TE} {ta : TA} (th : There J s H (frs outer)) (ok : J.Ok) (hr : Room j (Zc P w K mg base N qual scope f cdv A outer s H E).A) (hk : k + 1 ≤ j)
    (hbody : ∀ (A : Around) (outer : List Env) (s : Shared) (H : Hp), Room k (A.deeper (J.env s.heap.objs.size)) → PE (lamC J P w K mg base A outer s H) J.body tb) (hN : N[i]? = some y) (hv : Vis scope y) (ha : PA (Zc P w K mg base N qual scope f cdv A outer s H E) [e] ta)
    (hdb : (y == ("__debug__" : Str)) = false := by decide) (hcd : (y == ("__classdict__" : Str)) = false := by decide)
    (hst : starEach [e] (Zc P w K mg base N qual scope f cdv A outer s H E).env = (false, eval e (Zc P w K mg base N qual scope f cdv A outer s H E).env) :: starEach [] (Zc P w K mg base N qual scope f cdv A outer s H E).env := by rfl) (hpl : (backTo pos (starEach [] (Zc P w K mg base N qual scope f cdv A outer s H E).env)).any (·.1) = false := by rfl) :
    PE (Zc P w K mg base N qual scope f cdv A outer s H E) (.Call (.Name y p) [e] [] pos) (tJudge J i tb ta) := by
  refine ⟨fun pins sZ σ HZ Q I h => ?_⟩
  obtain ⟨hs, ht⟩ := h
  refine wpAny_Call_Name_kw (thn ((pe_var (pos := p) hN hv hdb hcd).run pins sZ σ HZ (fun v H1 => v = .ref J.f ∧ H1 = HZ) I ⟨.ref J.f, hs, rfl, rfl⟩) fun u s1 ⟨v, H1, I1, r1, q1⟩ => ?_)
  obtain ⟨rfl, rfl⟩ := q1
  cases r1
  have keepF : ∀ {pins : List (Addr × Obj)} {σ : L2.St} {H1 : Hp} {s1 : Shared}, Inv (Zc P w K mg base N qual scope f cdv A outer s H E) pins σ H1 s1 → s1.heap.get? J.f = some J.ob := fun I => I.base.keep _ _ th.ob th.nH th.nf (fun z => nomatch (show J.f ∈ ([] : List Addr) from z))
  refine PySem.W.callWith_F ⟨_, _, _, _, keepF I1⟩ (thn (ha.run pos pins s1 σ _ _ I1 ht) fun us s2 ⟨vs, H2, I2, r, q⟩ => ⟨⟨_, _, _, _, keepF I2⟩, ?_⟩) hst hpl
  obtain ⟨v, rfl, hc, q⟩ := q
  obtain ⟨u, eu, rx⟩ := vals1 r
  subst eu
  · refine wpAny_call (codeAny_mono (lam_run (k := k) (E := C8.E0) ok (there_at th I2 hc) I2.env0 (hr.mono hk) rx (fun s H => hbody _ _ s H) q) fun res s' out => ?_)
    match res, out with
    | .error _, z => exact z.elim
    | .ok (.ret _), z => exact I2.after z
    | .ok .next, z => exact z.elim
    | .ok .brk, z => exact z.elim
    | .ok .cont, z => exact z.elim
theorem pe_cJ {y : Str} {p pos : Pos} {e : Expr} {es : List Expr} {ta : TA} {j : Nat} (c : CalJ P w K mg base J k y sp) (th : There J s H (frs outer)) (hr : Room j (Zc P w K mg base N qual scope f cdv A outer s H E).A) (hk : k ≤ j) (hg : Gl (Zc P w K mg base N qual scope f cdv A outer s H E) y)
    (ha : PA (Zc P w K mg base N qual scope f cdv A outer s H E) (e :: es) ta) (hdb : (y == ("__debug__" : Str)) = false := by decide)
    (he : starEach (e :: es) (Zc P w K mg base N qual scope f cdv A outer s H E).env = (false, eval e (Zc P w K mg base N qual scope f cdv A outer s H E).env) :: starEach es (Zc P w K mg base N qual scope f cdv A outer s H E).env := by rfl) (hpl : (backTo pos (starEach es (Zc P w K mg base N qual scope f cdv A outer s H E).env)).any (·.1) = false := by rfl) :
    PE (Zc P w K mg base N qual scope f cdv A outer s H E) (.Call (.Name y p) (e :: es) [] pos) (tCallJ J sp ta) := by
  obtain ⟨g, fd, ps, F, hm, kp, b⟩ := c.ex
  constructor
  intro pins sZ σ HZ Q I h
  refine wpAny_Call_Name_kw (ld_glob I hg hm ?_ hdb)
  refine PySem.W.callWith_K (h₀ := base) I.ok.mod.kin kp ?_ he hpl
  refine thn (ha.run pos pins sZ σ HZ _ I h) fun us s1 ⟨vs, H1, I1, r, hc, q⟩ => And.intro I1.kIn ?_
  have fits : us.length = ps.length := r.length.symm.trans (F.len vs H1 Q C8.E0 q)
  have bt := b s1 us I1.kIn (by rw [List.append_nil]; exact fits)
  rw [List.append_nil] at bt
  refine wpAny_call (codeAny_mono (F.run _ _ s1 H1 ⟨us, []⟩ us vs Q C8.E0 (hr.mono hk) (there_at th I1 hc) I1.env0 bt r q) ?_)
  intro res s' out
  match res, out with
  | .error _, z => exact z.elim
  | .ok (.ret _), z => exact I1.after z
  | .ok .next, z => exact z.elim
  | .ok .brk, z => exact z.elim
  | .ok .cont, z => exact z.elim
end

/-! ### where it is made and handed on -/
def lamB (sc scope : Scope) (x z : Str) : Bool :=
  decide (scope.kind = .function) && !scope.isCoroutine && !scope.isGenerator && decide (x ≠ z) && decide (scope.names.lookup x = some .local) && decide (scope.names.lookup z = some .free) && decide (sc.names.lookup z = some .cell) &&
    scope.names.all fun y => !decide (y.2 = .cell) && (!decide (y.2 = .local) || decide (y.1 = x)) && (!decide (y.2 = .free) || decide (y.1 = z))
structure Stat (J : Jd) (q : Str) (params : Arguments) (body : Expr) (scope : Scope) (x z : Str) (pv : V) : Prop where
  q : J.q = q
  params : J.params = params
  body : J.body = body
  scope : J.scope = scope
  x : J.x = x
  z : J.z = z
  pv : J.pv = pv
def tMkJ (T : List (Addr × Str)) (q : Str) (params : Arguments) (body : Expr) (scope : Scope) (x z : Str) (iz : Nat) (spJ : Jd → Sp) (te : TE) : TE := fun σ H Q => te σ H fun v H1 => Tabs T H1 ∧ ∃ pv, σ[iz]? = some (some pv) ∧
  ∀ (J : Jd) H2, ExtN H1 H2 → Tabs T H2 → J.Ok → HasC J H2 → Stat J q params body scope x z pv → spJ J [v, .ref J.f] H2 Q C8.E0
theorem pe_mkJ {X : Cx} {T : List (Addr × Str)} {spJ : Jd → Sp} {y x z : Str} {c P : Addr} {k j iz : Nat} {params : Arguments} {body : Expr} {scope : Scope} {e1 : Expr} {te : TE} {p lpos pos : Pos} {st : Stmt} (F : DefOk X.K X.mg y st)
    (cj : ∀ J : Jd, J.Ok → (∃ pv, Stat J (X.env.qual ++ "<lambda>") params body scope x z pv) → CalJ X.prog X.w X.K X.mg X.base J k y (spJ J)) (hr : Room j X.A) (hk : k ≤ j) (hg : Gl X y) (he : PE X e1 te) (TB : TabB X.base X.mg c P) (hcode : X.env.code = .ref c)
    (hmT : (P, X.env.qual ++ "<lambda>") ∈ T) (hu : ∀ p ∈ T, p.1 = P → p.2 = X.env.qual ++ "<lambda>") (hdef : defaultsOf params X.env = ([], [])) (L : lamB X.env.scope scope x z = true) (hN : X.N[iz]? = some z)
    (hbind : ∀ (q : Str) (cl : List (Str × Addr)) (pm cv ctv u : Value), bindArgs (PySem.W.kla_fn "<lambda>" q params body scope cl pm cv ctv) ⟨[u], []⟩ = pure [(x, u)])
    (hdb : (y == ("__debug__" : Str)) = false := by decide) (hst : starEach [e1, .Lambda params body scope lpos] X.env = (false, eval e1 X.env) :: starEach [.Lambda params body scope lpos] X.env := by rfl) :
    PE X (.Call (.Name y p) [e1, .Lambda params body scope lpos] [] pos) (tMkJ T (X.env.qual ++ "<lambda>") params body scope x z iz spJ te) := by
  refine ⟨fun pins s σ H Q I h => ?_⟩
  unfold lamB at L
  simp only [Bool.and_eq_true, Bool.or_eq_true, Bool.not_eq_true', decide_eq_true_eq, decide_eq_false_iff_not, List.all_eq_true] at L
  obtain ⟨⟨⟨⟨⟨⟨⟨l1, l2⟩, l3⟩, l4⟩, l5⟩, l6⟩, l7⟩, l8⟩ := L
  obtain ⟨g, gd, FD, hm⟩ := F.ex
  refine wpAny_Call_Name_kw (ld_glob I hg hm ?_ hdb)
  refine PySem.W.callWith_K (h₀ := X.base) I.ok.mod.kin FD.kp ?_ hst (by rfl)
  rw [hst]
  show wpAny _ _ (spliced ((false, eval e1 X.env) :: (false, eval (.Lambda params body scope lpos) X.env) :: [])) _ _ s
  refine Calls.spliced_cons (thn (he.run pins s σ H _ I h) fun u s1 ⟨v, H1, I1, r1, hT, pv, hpv, q⟩ => ?_)
  have hfree : ∀ y ∈ scope.names, y.2 = .free → ∃ c, X.env.cells.lookup y.1 = some c := fun y hy hf => by
    rw [(l8 y hy).2.resolve_left (fun h => h hf)]
    exact I1.ok.has z (.inl l7)
  refine Calls.spliced_cons (lam_make2 I1 TB hcode hmT hu hT hdef hfree fun f c' pm ctv H2 s' I2 eN T2 hf hfn hfr hco => ?_)
  refine Calls.spliced_nil ⟨I2.kIn, ?_⟩
  obtain ⟨cz, hcz⟩ := I1.ok.has z (.inl l7)
  let J : Jd := ⟨f, c', X.env.qual ++ "<lambda>", params, body, scope, cloFrom X.env.cells scope.names [], pm, ctv, x, z, cz, pv⟩
  have st : Stat J (X.env.qual ++ "<lambda>") params body scope x z pv := ⟨rfl, rfl, rfl, rfl, rfl, rfl, rfl⟩
  have zmem : (z, NameKind.free) ∈ scope.names := PySem.mem_of_lookup l6
  have cl1 : ∀ y c, (cloFrom X.env.cells scope.names []).lookup y = some c → y = z ∧ c = cz := fun y c e => by
    rcases cloFrom_mem (PySem.mem_of_lookup e) with hm | ⟨h1, h2⟩
    · cases hm
    · have hy : y = z := (l8 _ h1).2.resolve_left (fun h => h rfl)
      subst hy
      rw [hcz] at h2
      exact ⟨rfl, h2⟩
  have cl2 : (cloFrom X.env.cells scope.names []).lookup z = some cz := by
    obtain ⟨c2, h2⟩ := mem_lookup (cloFrom_has (cells := X.env.cells) (acc := []) zmem)
    rw [h2, (cl1 _ _ h2).2]
  have ok : J.Ok := ⟨l1, l2, l3, l4, l5, fun y hy => (l8 y hy).1.1, fun y hy => (l8 _ (PySem.mem_of_lookup hy)).1.2.resolve_left (fun h => h rfl), fun y hy => (l8 _ (PySem.mem_of_lookup hy)).2.resolve_left (fun h => h rfl), cl1, cl2, fun u => hbind _ _ _ _ _ u⟩
  have th : There J s' H2 (frs X.stack) := by
    refine ⟨hf, hfn, hfr, ?_, I2.freeC z cz hcz, hco⟩
    obtain ⟨m, hn, hl⟩ := I2.loc
    obtain ⟨u', r, q'⟩ := hl iz z pv hN hpv (.inr (.inl l7))
    refine ⟨u', r, ?_⟩
    rcases q' with ⟨k', _⟩ | ⟨_, c3, e', w'⟩
    · have k' : X.env.scope.names.lookup z = some .local := k'
      rw [l7] at k'
      cases k'
    · rw [hcz] at e'
      cases e'
      exact w'
  obtain ⟨g', fd, ps, FJ, hm', kp', b⟩ := (cj J ok ⟨pv, st⟩).ex
  obtain rfl : g = g' := by
    rw [hm] at hm'
    cases hm'
    rfl
  have q := q J H2 eN T2 ok hco st
  have fits : ([u, .ref f] : List Value).length = ps.length := (FJ.len _ H2 Q C8.E0 q)
  have bt := b s' [u, .ref f] I2.kIn (by rw [List.append_nil]; exact fits)
  rw [List.append_nil] at bt
  refine wpAny_call (codeAny_mono (FJ.run X.A X.stack s' H2 ⟨[u, .ref f], []⟩ [u, .ref f] [v, .ref f] Q C8.E0 (hr.mono hk) th I2.env0 bt (.cons r1 (.cons rfl .nil)) q) ?_)
  intro res s2 out
  match res, out with
  | .error _, z => exact z.elim
  | .ok (.ret _), z => exact I2.after z
  | .ok .next, z => exact z.elim
  | .ok .brk, z => exact z.elim
  | .ok .cont, z => exact z.elim

/-! ### a def that makes one: its code object is told -/
theorem cal_ofL {P : Program} {w : World} {K : PySem.W.Frag} {mg : Str → Option Value} {base : Heap} {x : Str} {st : Stmt} {N ps : List Str} {k : Nat} {sp : Sp} (F : DefOk K mg x st) (hw : mg x = some (.ref (He.fAd K (x, none)))) (S : FnScope N ps (defScope st))
    (hb : ∀ f fd, FunD K x x (defArgs st) (defBody st) (defScope st) [] [] f fd → Binds K fd ps []) (len : ∀ vs H Q E, sp vs H Q E → vs.length = ps.length)
    (body : ∀ (f : Addr) (cdv : Value) (A : Around) (outer : List Env) (s : Shared) (H : Hp) (vs : List V) (Q : VK) (E : XK), cdv = .ref (He.cT K (x, none)).1 → Room k (A.deeper (envOfC x (defScope st) s.heap.objs.size f cdv)) → sp vs H Q E →
      ∃ t, PSs (cxOf C8.CX0 P w K mg base N x (defScope st) f cdv A outer s H E).nox (defBody st) t ∧ t { nx := fun _ H' => Q .non H', rt := Q } (start N vs) H) : C8.Cal P w K mg base (k + 1) x sp [] := by
  obtain ⟨f, fd, F, hm⟩ := F.ex
  have ef : f = He.fAd K (x, none) := by
    rw [hm] at hw
    cases hw
    rfl
  refine ⟨f, fd, ps, [], ?_, hm, F.kp, hb f fd F, .nil⟩
  obtain ⟨oc, od, dV, kV, doc, pm, an, cdv, ct, osl, rfl, lk, hcd, _, _⟩ := F.ex
  obtain ⟨c, rfl⟩ := He.codeIn_ref hcd
  have ec : (He.cT K (x, none)).1 = c := He.codeOf_eq (p := (x, none)) (ef ▸ lk) rfl
  refine fn_of lk hcd S len fun A outer s H vs Q E hr h => ?_
  obtain ⟨t, h1, h2⟩ := body f (.ref c) A outer s H vs Q E (by rw [ec]) hr h
  exact ⟨t, PSs.nox h1, h2⟩
theorem ExtN.tk {H H' : Hp} (e : ExtN H H') : TK H H' := fun a xs h => e a _ h (by intro ps z; cases z)
theorem extN_of {H H' : Hp} (s : Same H H') : ExtN H H' := fun b o e _ => s b o e
section
variable {σ : L2.St} {H : Hp} {Q : VK} {J : Jd} {spJ : Jd → Sp} {sp : Sp} {ta : TA} {te tb : TE} {T : List (Addr × Str)} {q : Str} {params : Arguments} {body : Expr} {scope : Scope} {x z : Str} {iz i : Nat}
theorem e_cJ (h : ta σ H fun vs H1 => HasC J H1 ∧ sp vs H1 Q C8.E0) : tCallJ J sp ta σ H Q := h
theorem e_judge (e : σ[i]? = some (some (.ref J.f))) (h : ta σ H fun vs H1 => ∃ v, vs = [v] ∧ HasC J H1 ∧ tb [some v, some J.pv] H1 Q) : tJudge J i tb ta σ H Q := ⟨e, h⟩
theorem e_mkJ (h : te σ H fun v H1 => Tabs T H1 ∧ ∃ pv, σ[iz]? = some (some pv) ∧ ∀ (J : Jd) H2, ExtN H1 H2 → Tabs T H2 → J.Ok → HasC J H2 → Stat J q params body scope x z pv → spJ J [v, .ref J.f] H2 Q C8.E0) : tMkJ T q params body scope x z iz spJ te σ H Q := h
end
end WL
/-! WR: the rows of a paper as texts: joined, split, numbers. -/
namespace WR
open PySem PySem.Spec PyProof.Rows L2 Wy WM W3 W4
abbrev SP : Str := " "
abbrev NL : Str := "\n"
abbrev CM : Str := ","
/-- a number of at most m digits without a needless zero -/
def numW (m : Nat) (z : Str) : Bool := decide (1 ≤ z.length) && decide (z.length ≤ m) && (decide (∀ c ∈ tl z, c ∈ tl DIG)) && (decide (z.length = 1) || !decide ((tl z)[0]? = some 48))
theorem num_len {n m : Nat} (hm : 0 < m) (h : n < 10 ^ m) : 1 ≤ (numS n).length ∧ (numS n).length ≤ m := by
  rw [str_len]
  show 1 ≤ (tl (numS n)).length ∧ (tl (numS n)).length ≤ m
  rw [numS_tl]
  exact ⟨List.length_pos_iff.mpr (TL.numL_ne n), TL.numL_len hm h⟩
theorem numW_num {n m : Nat} (hm : 0 < m) (h : n < 10 ^ m) : numW m (numS n) = true := by
  obtain ⟨h1, h2⟩ := num_len hm h
  unfold numW
  rw [decide_eq_true h1, decide_eq_true h2, numS_tl, decide_eq_true (fun c hc => dig_mem (TL.numL_digits n c hc))]
  by_cases h0 : n = 0
  · subst h0
    decide +kernel
  · rw [decide_eq_false (numL_head (by omega))]
    simp
theorem num_text {n m : Nat} (hm : 0 < m) (hm2 : m ≤ 600) (h : n < 10 ^ m) : intText? (numS n) = some (n : Int) ∧ (numS n).length ≤ 640 := by
  obtain ⟨h1, h2⟩ := num_len hm h
  have e := numS_dv n
  rw [← e]
  refine ⟨?_, by omega⟩
  exact intText_digits (fun c hc => TL.numL_digits n c (by rw [← numS_tl]; exact hc)) (ne_of_len h1) (by omega)
/-- a sign that no number has -/
theorem num_no {n c : Nat} (h : c < 48 ∨ 57 < c) : c ∉ tl (numS n) := by
  rw [numS_tl]
  intro hc
  have := TL.numL_digits n c hc
  omega
theorem int_no {n : Int} {c : Nat} (h : c < 48 ∨ 57 < c) (h2 : c ≠ 45) : c ∉ tl (intS n) := by
  rw [intS_tl]
  split
  · intro hc
    rcases List.mem_cons.mp hc with e | hc
    · exact h2 e
    · have := TL.numL_digits _ c hc
      omega
  · intro hc
    have := TL.numL_digits _ c hc
    omega
theorem jl (y : Str) (ps : List Str) : tl (Txt.join y ps) = TL.joinL (tl y) (ps.map tl) := by
  rw [TL.join_eq]
  exact TL.tl_join y ps
theorem joinL_mem {y : List Nat} {c : Nat} : ∀ {ps : List (List Nat)}, c ∈ TL.joinL y ps → c ∈ y ∨ ∃ p ∈ ps, c ∈ p
  | [], h => absurd h (by simp [TL.joinL])
  | [p], h => .inr ⟨p, List.mem_singleton.mpr rfl, h⟩
  | p :: q :: r, h => by
    have h : c ∈ p ++ (y ++ TL.joinL y (q :: r)) := h
    rcases List.mem_append.mp h with h | h
    · exact .inr ⟨p, List.mem_cons_self .., h⟩
    · rcases List.mem_append.mp h with h | h
      · exact .inl h
      · rcases joinL_mem h with h | ⟨z, hz, h⟩
        · exact .inl h
        · exact .inr ⟨z, List.mem_cons_of_mem _ hz, h⟩
theorem join_no {y : Str} {c : Nat} {ps : List Str} (hy : c ∉ tl y) (hp : ∀ p ∈ ps, c ∉ tl p) : c ∉ tl (Txt.join y ps) := by
  rw [jl]
  intro h
  rcases joinL_mem h with h | ⟨p, hp2, h⟩
  · exact hy h
  · obtain ⟨z, hz, rfl⟩ := List.mem_map.mp hp2
    exact hp z hz h
theorem join_cons {y x : Str} {r : List Str} (h : r ≠ []) : Txt.join y (x :: r) = x ++ (y ++ Txt.join y r) := by
  refine str_ext ?_
  show tl _ = tl _
  rw [tl_app, tl_app, jl, jl]
  cases r with
  | nil => exact absurd rfl h
  | cons z r => rfl
theorem join_one {y x : Str} : Txt.join y [x] = x := by
  refine str_ext ?_
  show tl _ = tl _
  rw [jl]
  rfl
theorem split_sp {parts : List Str} (hne : parts ≠ []) (hp : ∀ p ∈ parts, 32 ∉ tl p) : Txt.split (Txt.join SP parts) SP = parts := TL.split_join (s := 32) (S := []) (by decide +kernel) (by decide +kernel) hne hp
theorem split_nl {parts : List Str} (hne : parts ≠ []) (hp : ∀ p ∈ parts, 10 ∉ tl p) : Txt.split (Txt.join NL parts) NL = parts := TL.split_join (s := 10) (S := []) (by decide +kernel) (by decide +kernel) hne hp
theorem split_cm {parts : List Str} (hne : parts ≠ []) (hp : ∀ p ∈ parts, 44 ∉ tl p) : Txt.split (Txt.join CM parts) CM = parts := TL.split_join (s := 44) (S := []) (by decide +kernel) (by decide +kernel) hne hp
theorem starts_eq (x y : Str) : Txt.startswith x y = decide ((tl x).take (tl y).length = tl y) := by
  have h1 : ((x.cps.extract 0 (0 + y.length)) == y.cps) = decide ((tl x).take (tl y).length = tl y) := by
    rw [Bool.beq_eq_decide_eq, decide_eq_decide]
    have e : (x.cps.extract 0 (0 + y.length)).toList = (tl x).take (tl y).length := by
      rw [Array.toList_extract, Nat.zero_add, str_len]
      simp [List.extract]
    constructor
    · intro h
      rw [← e, h]
    · intro h
      refine Array.toList_inj.mp ?_
      rw [e, h]
  show (decide (0 + y.length ≤ x.length) && ((x.cps.extract 0 (0 + y.length)) == y.cps)) = _
  rw [h1]
  by_cases h : (tl x).take (tl y).length = tl y
  · rw [decide_eq_true h, Bool.and_true]
    refine decide_eq_true ?_
    have h2 := congrArg List.length h
    rw [List.length_take] at h2
    rw [str_len, str_len]
    show 0 + (tl y).length ≤ (tl x).length
    omega
  · rw [decide_eq_false h, Bool.and_false]
theorem starts_app (x y : Str) : Txt.startswith (y ++ x) y = true := by
  rw [starts_eq, tl_app]
  exact decide_eq_true (by simp)
theorem starts_not {x y : Str} {c d : Nat} (hx : (tl x)[0]? = some c) (hy : (tl y)[0]? = some d) (h : c ≠ d) : Txt.startswith x y = false := by
  rw [starts_eq]
  refine decide_eq_false fun e => h ?_
  have h2 := congrArg (fun l => l[0]?) e
  rw [hy] at h2
  have hl : 0 < (tl y).length := (List.getElem?_eq_some_iff.mp hy).1
  have h2 : ((tl x).take (tl y).length)[0]? = some d := h2
  rw [List.getElem?_take_of_lt hl, hx] at h2
  exact Option.some.inj h2
theorem num_head (n : Nat) : ∃ c, (tl (numS n))[0]? = some c ∧ 48 ≤ c ∧ c ≤ 57 := by
  rw [numS_tl]
  have h := List.length_pos_iff.mpr (TL.numL_ne n)
  refine ⟨(TL.numL n)[0], List.getElem?_eq_getElem h, ?_⟩
  exact TL.numL_digits n _ (List.getElem_mem h)
theorem int_neg {n : Int} (h : n < 0) : intS n = ("-" : Str) ++ numS (-n).toNat := toStr_neg h
theorem int_nat {n : Int} (h : 0 ≤ n) : intS n = numS n.toNat := toStr_nat h
theorem int_starts (n : Int) : Txt.startswith (intS n) "-" = decide (n < 0) := by
  by_cases h : n < 0
  · rw [decide_eq_true h, int_neg h]
    exact starts_app _ _
  · rw [decide_eq_false h, int_nat (by omega)]
    obtain ⟨c, h1, h2, h3⟩ := num_head n.toNat
    exact starts_not (d := 45) h1 (by decide +kernel) (by omega)
theorem cut_one (x y : Str) (h : y.length = 1) : cutS (y ++ x) (some 1) none = x := by
  refine str_ext ?_
  unfold cutS
  have e : HT.sIx (y ++ x).length 0 (some 1) = 1 := by
    rw [show (1 : Int) = ((1 : Nat) : Int) from rfl, HT.sIx_nat, app_len]
    omega
  rw [e, HT.sIx_none]
  show (((tl (y ++ x)).drop 1).take ((y ++ x).length - 1)) = tl x
  rw [tl_app, app_len, h]
  have hy : (tl y).length = 1 := by rw [← h]; exact (str_len y).symm
  rw [List.drop_append_of_le_length (by omega), List.drop_of_length_le (by omega), List.nil_append, List.take_of_length_le]
  have : x.length = (tl x).length := str_len x
  omega
theorem joinL_len {y : List Nat} {B : Nat} : ∀ {ps : List (List Nat)}, (∀ p ∈ ps, p.length ≤ B) → (TL.joinL y ps).length ≤ ps.length * (B + y.length)
  | [], _ => by simp [TL.joinL]
  | [p], h => by
    have := h p (List.mem_singleton.mpr rfl)
    show p.length ≤ 1 * (B + y.length)
    omega
  | p :: q :: r, h => by
    have h1 := h p (List.mem_cons_self ..)
    have h2 := joinL_len (y := y) (B := B) (ps := q :: r) fun z hz => h z (List.mem_cons_of_mem _ hz)
    show (p ++ (y ++ TL.joinL y (q :: r))).length ≤ _
    rw [List.length_append, List.length_append, List.length_cons, Nat.add_mul]
    omega
theorem join_len {y : Str} {ps : List Str} {B : Nat} (h : ∀ p ∈ ps, p.length ≤ B) : (Txt.join y ps).length ≤ ps.length * (B + y.length) := by
  have e1 : (Txt.join y ps).length = (tl (Txt.join y ps)).length := str_len _
  have e2 : y.length = (tl y).length := str_len _
  rw [e1, e2, jl]
  have := joinL_len (y := tl y) (B := B) (ps := ps.map tl) fun p hp => by
    obtain ⟨z, hz, rfl⟩ := List.mem_map.mp hp
    have := h z hz
    rw [str_len] at this
    exact this
  rwa [List.length_map] at this
theorem fl_len {f : List Nat} (hl : f.length ≤ 10) (h : ∀ n ∈ f, n < 10 ^ 12) : (Txt.join CM (f.map numS)).length ≤ 130 := by
  have := join_len (y := CM) (ps := f.map numS) (B := 12) fun p hp => by
    obtain ⟨n, hn, rfl⟩ := List.mem_map.mp hp
    exact (num_len (by decide) (h n hn)).2
  have e : CM.length = 1 := by decide +kernel
  rw [List.length_map, e] at this
  omega
theorem strs_tp {H : Hp} : ∀ zs : List Str, TpAll H (zs.map V.str) (zs.map PyData.str)
  | [] => .nil
  | z :: zs => .cons (.str z) (strs_tp zs)
theorem any_none {α : Type} {F : α → PyData} (h : ∀ x, PyData.eqv (F x) .none = false) (xs : List α) : (xs.map F).any (fun z => PyData.eqv z .none) = false := by
  rw [List.any_map, List.any_eq_false]
  intro x _
  rw [Function.comp_apply, h x]
  exact Bool.false_ne_true
theorem ok_of {z : Str} (h : ∀ c ∈ tl z, c < 1114112) : PyData.strOk z = true := by
  show z.cps.all (fun c => decide (c < 0x110000)) = true
  rw [← Array.all_toList, List.all_eq_true]
  exact fun c hc => decide_eq_true (h c hc)
theorem num_ok (n : Nat) : PyData.strOk (numS n) = true := ok_of fun c hc => by
  rw [numS_tl] at hc
  have := TL.numL_digits n c hc
  omega
theorem int_ok (n : Int) : PyData.strOk (intS n) = true := ok_of fun c hc => by
  rw [intS_tl] at hc
  split at hc
  · rcases List.mem_cons.mp hc with e | hc
    · omega
    · have := TL.numL_digits _ c hc
      omega
  · have := TL.numL_digits _ c hc
    omega
theorem sh_strs {zs : List Str} (h : ∀ z ∈ zs, PyData.strOk z = true) : SeqAt.shaped (.list (zs.map PyData.str)) = true := WQ.shL PyData.str zs 1 (by decide) fun z hz => ⟨by simp [PyData.canLay0, h z hz], by simp [PyData.depth]⟩
theorem nb_strs (zs : List Str) : WQ.nb (.list (zs.map PyData.str)) = true := by
  show WQ.nbAll _ = true
  exact WQ.nb_all PyData.str zs fun _ _ => rfl
theorem int_len {n : Int} (h : n.natAbs < 10 ^ 12) : (intS n).length ≤ 13 := by
  by_cases z : n < 0
  · rw [int_neg z, app_len]
    have := (num_len (m := 12) (by decide) (show (-n).toNat < 10 ^ 12 by omega)).2
    have : (("-" : Str)).length = 1 := by decide +kernel
    omega
  · rw [int_nat (by omega)]
    have := (num_len (m := 12) (by decide) (show n.toNat < 10 ^ 12 by omega)).2
    omega
theorem fl_ok (f : List Nat) : PyData.strOk (Txt.join CM (f.map numS)) = true := ok_of fun c hc => by
  rw [jl] at hc
  rcases joinL_mem hc with h | ⟨p, hp, h⟩
  · have : tl CM = [44] := by decide +kernel
    rw [this] at h
    have := List.mem_singleton.mp h
    omega
  · obtain ⟨z, hz, rfl⟩ := List.mem_map.mp hp
    obtain ⟨n, _, rfl⟩ := List.mem_map.mp hz
    rw [numS_tl] at h
    have := TL.numL_digits n c h
    omega
theorem cut_pre (x y : Str) : cutS (y ++ x) (some (y.length : Int)) none = x := by
  refine str_ext ?_
  unfold cutS
  have e : HT.sIx (y ++ x).length 0 (some (y.length : Int)) = y.length := by
    rw [HT.sIx_nat, app_len]
    omega
  rw [e, HT.sIx_none]
  show (((tl (y ++ x)).drop y.length).take ((y ++ x).length - y.length)) = tl x
  have hy : y.length = (tl y).length := str_len y
  have hx : x.length = (tl x).length := str_len x
  rw [tl_app, app_len, List.drop_append_of_le_length (by omega), List.drop_of_length_le (by omega), List.nil_append, List.take_of_length_le (by omega)]
/-! ### tokens -/
inductive Tk where
  | on
  | over
  | dead (ns : List Nat)
  | met (fs : List (List Nat))
def Tk.ok : Tk → Prop
  | .on => True
  | .over => True
  | .dead ns => ns ≠ [] ∧ ns.length ≤ 10 ∧ ∀ n ∈ ns, n < 10 ^ 12
  | .met fs => fs ≠ [] ∧ fs.length ≤ 10 ∧ ∀ f ∈ fs, f ≠ [] ∧ f.length ≤ 10 ∧ ∀ n ∈ f, n < 10 ^ 12
def natsD (ns : List Nat) : PyData := .tuple (ns.map fun n : Nat => PyData.int (n : Int))
def Tk.d : Tk → PyData
  | .on => .tuple [.str "on"]
  | .over => .tuple [.str "over"]
  | .dead ns => .tuple [.str "dead", natsD ns]
  | .met fs => .tuple [.str "met", .tuple (fs.map natsD)]
def Tk.l : Tk → Str
  | .on => "on"
  | .over => "over"
  | .dead ns => Txt.join SP (("dead" : Str) :: ns.map numS)
  | .met fs => Txt.join SP (("met" : Str) :: fs.map fun f => Txt.join CM (f.map numS))
theorem fl_no {f : List Nat} {c : Nat} (h : c < 44) : c ∉ tl (Txt.join CM (f.map numS)) := join_no (by
  have : tl CM = [44] := by decide +kernel
  rw [this]
  simp
  omega) fun p hp => by
    obtain ⟨n, _, rfl⟩ := List.mem_map.mp hp
    exact num_no (.inl (by omega))
theorem split_dead {ns : List Nat} : Txt.split (Tk.l (.dead ns)) SP = ("dead" : Str) :: ns.map numS := split_sp (by simp) fun p hp => by
  rcases List.mem_cons.mp hp with rfl | hp
  · decide +kernel
  · obtain ⟨n, _, rfl⟩ := List.mem_map.mp hp
    exact num_no (.inl (by decide))
theorem split_met {fs : List (List Nat)} : Txt.split (Tk.l (.met fs)) SP = ("met" : Str) :: fs.map fun f => Txt.join CM (f.map numS) := split_sp (by simp) fun p hp => by
  rcases List.mem_cons.mp hp with rfl | hp
  · decide +kernel
  · obtain ⟨n, _, rfl⟩ := List.mem_map.mp hp
    exact fl_no (by decide)
theorem split_fl {f : List Nat} (h : f ≠ []) : Txt.split (Txt.join CM (f.map numS)) CM = f.map numS := split_cm (by simpa using h) fun p hp => by
  obtain ⟨n, _, rfl⟩ := List.mem_map.mp hp
  exact num_no (.inl (by decide))
theorem dead_row {ns : List Nat} : 10 ∉ tl (Tk.l (.dead ns)) := join_no (by decide +kernel) fun p hp => by
  rcases List.mem_cons.mp hp with rfl | hp
  · decide +kernel
  · obtain ⟨n, _, rfl⟩ := List.mem_map.mp hp
    exact num_no (.inl (by decide))
theorem met_row {fs : List (List Nat)} : 10 ∉ tl (Tk.l (.met fs)) := join_no (by decide +kernel) fun p hp => by
  rcases List.mem_cons.mp hp with rfl | hp
  · decide +kernel
  · obtain ⟨n, _, rfl⟩ := List.mem_map.mp hp
    exact fl_no (by decide)
/-- no row of a token has a line's end in it -/
theorem tk_row (t : Tk) : 10 ∉ tl t.l := by
  cases t with
  | on => decide +kernel
  | over => decide +kernel
  | dead ns => exact dead_row
  | met fs => exact met_row
/-- the verdict -/
inductive Vd where
  | none
  | found (ns : List Int)
def Vd.ok : Vd → Prop
  | .none => True
  | .found ns => ns ≠ [] ∧ ns.length ≤ 10 ∧ ∀ n ∈ ns, n.natAbs < 10 ^ 12
def Vd.d : Vd → PyData
  | .none => .tuple [.str "none"]
  | .found ns => .tuple [.str "found", .tuple (ns.map .int)]
def Vd.l : Vd → Str
  | .none => "none"
  | .found ns => Txt.join SP (("found" : Str) :: ns.map intS)
theorem split_found {ns : List Int} : Txt.split (Vd.l (.found ns)) SP = ("found" : Str) :: ns.map intS := split_sp (by simp) fun p hp => by
  rcases List.mem_cons.mp hp with rfl | hp
  · decide +kernel
  · obtain ⟨n, _, rfl⟩ := List.mem_map.mp hp
    exact int_no (.inl (by decide)) (by decide)
theorem found_row {ns : List Int} : 10 ∉ tl (Vd.l (.found ns)) := join_no (by decide +kernel) fun p hp => by
  rcases List.mem_cons.mp hp with rfl | hp
  · decide +kernel
  · obtain ⟨n, _, rfl⟩ := List.mem_map.mp hp
    exact int_no (.inl (by decide)) (by decide)
theorem vd_row (t : Vd) : 10 ∉ tl t.l := by
  cases t with
  | none => decide +kernel
  | found ns => exact found_row
end WR
/-! WH: a head with defs that stand at any place: a property's getter, a def with defaults by name; a table of defs. -/
namespace WH
open PySem PySem.Spec PyProof.Rows L2 He
/-- what a def at a place is -/
def fnA (K : PySem.W.Frag) (a : Addr) : FnW := match K.lookup a with
  | some ⟨_, _, .func d, _⟩ => some (d.name, d.qualname, d.params, d.body, d.scope, d.globals, d.closure, d.builtins)
  | _ => none
/-- a def that stands where at_ says, with its defaults by name -/
structure SpD where
  at_ : PySem.W.Frag → Addr
  name : Str
  qual : Str
  params : Arguments
  body : List Stmt
  scope : Scope
  kws : PySem.W.Frag → List (Str × V) := fun _ => []
def SpD.val (d : SpD) : FnW := some (d.name, d.qual, d.params, .stmts d.body, d.scope, mainGlobals, [], builtinsNs)
def SpD.ok (K : PySem.W.Frag) (d : SpD) : Bool := (match K.lookup (d.at_ K) with
  | some ⟨_, _, .func e, _⟩ => PySem.W.codeIn K e.code d.qual && (dflB K e.defaults [] && kwdB K e.kwdefaults (d.kws K))
  | _ => false) && PySem.W.keepIn K (.ref (d.at_ K))
theorem SpD.funD {K : PySem.W.Frag} {d : SpD} (e : fnA K (d.at_ K) = d.val) (c : d.ok K = true) : ∃ fd, FunD K d.name d.qual d.params d.body d.scope [] (d.kws K) (d.at_ K) fd := by
  obtain ⟨c1, kp⟩ := ba c
  unfold fnA at e
  cases q : K.lookup (d.at_ K) with
  | none =>
    rw [q] at c1
    cases c1
  | some ob =>
    obtain ⟨o1, o2, o3, o4⟩ := ob
    rw [q] at c1 e
    cases o3 with
    | func g =>
      obtain ⟨g1, g2, g3, g4, g5, g6, g7, g8, g9, g10, g11, g12, g13, g14, g15⟩ := g
      have e : (some (g1, g2, g3, g4, g5, g6, g7, g15) : FnW) = some (d.name, d.qual, d.params, .stmts d.body, d.scope, mainGlobals, [], builtinsNs) := e
      simp only [Option.some.injEq, Prod.mk.injEq] at e
      obtain ⟨i1, i2, i3, i4, i5, i6, i7, i8⟩ := e
      subst i1 i2 i3 i4 i5 i6 i7 i8
      obtain ⟨u1, u2⟩ := ba (show (PySem.W.codeIn K g13 d.qual && (dflB K g8 [] && kwdB K g9 (d.kws K))) = true from c1)
      obtain ⟨u3, u4⟩ := ba u2
      exact ⟨_, ⟨o1, o2, g8, g9, g10, g11, g12, g13, g14, o4, rfl, q, u1, dflB_ok u3, kwdB_ok u4⟩, kp⟩
    | _ => cases c1
/-- the object of a property, its getter -/
def prA (K : PySem.W.Frag) (C f : Str) : Addr := ma K (ga K C) f
def geA (K : PySem.W.Frag) (C f : Str) : Addr := match PySem.W.recIn K (prA K C f) "property" with
  | some (.ref g :: _) => g
  | _ => 0
def propB (K : PySem.W.Frag) (C f : Str) : Bool := eqO (PySem.W.findIn K (.ref (ga K C)) f) (some (some (.ref (prA K C f)))) && (eqO (PySem.W.specialIn K (.ref (prA K C f)) "__get__") (some (some (.builtin "property.__get__"))) &&
  (decide (PySem.W.takesIn K (.ref (prA K C f)) = some true) && (match PySem.W.recIn K (prA K C f) "property" with
    | some (.ref _ :: _) => true
    | _ => false)))
theorem propB_ok {K : PySem.W.Frag} {C f : Str} (h : propB K C f = true) : PropOf K (ga K C) f (prA K C f) (geA K C f) := by
  obtain ⟨h1, h2⟩ := ba h
  obtain ⟨h3, h4⟩ := ba h2
  obtain ⟨h5, h6⟩ := ba h4
  refine ⟨eqO_ok h1, eqO_ok h3, of_decide_eq_true h5, ?_⟩
  unfold geA
  generalize PySem.W.recIn K (prA K C f) "property" = z at h6
  cases z with
  | none => cases h6
  | some l => cases l with
    | nil => cases h6
    | cons v r => cases v with
      | ref g => exact ⟨r, rfl⟩
      | _ => cases h6
/-- what a default by name is -/
def kwA (K : PySem.W.Frag) (x f : Str) : Addr := match K.lookup (ga K x) with
  | some ⟨_, _, .func e, _⟩ => (match e.kwdefaults with
    | .ref D => (match PySem.W.nsIn K D f with
      | some (some (.ref a)) => a
      | _ => 0)
    | _ => 0)
  | _ => 0
def emptyB (K : PySem.W.Frag) (a : Addr) : Bool := W6.tupAt K (K.lookup a) []
/-! ### the hook -/
abbrev AlP : Type := AlX × List FnW
def exP (ex : PySem.W.Frag → Bool) (ps : List SpD) (K : PySem.W.Frag) : Bool := ex K && ps.all fun d => d.ok K
def obsP (n : Nat) (fa : List Fa) (fn : List DefD) (ts : List Tab) (tf : List Defn) (ex : PySem.W.Frag → Bool) (ps : List SpD) (g : Addr → Option Obj) : AlP :=
  (obsX n fa fn ts tf (exP ex ps) g, ps.map fun d => fnA (frT g (asD g n)) (d.at_ (frT g (asD g n))))
def valP (fn : List DefD) (ts : List Tab) (ps : List SpD) (w : World) : AlP := (valX fn ts w, ps.map SpD.val)
structure SaysP (fa : List Fa) (fn : List DefD) (ts : List Tab) (tf : List Defn) (ex : PySem.W.Frag → Bool) (ps : List SpD) (w : World) (h : Heap) (K : PySem.W.Frag) : Prop where
  x : SaysX fa fn ts tf (exP ex ps) w h K
  p : ps.map (fun d => fnA K (d.at_ K)) = ps.map SpD.val
theorem SaysP.more {fa : List Fa} {fn : List DefD} {ts : List Tab} {tf : List Defn} {ex : PySem.W.Frag → Bool} {ps : List SpD} {w : World} {h : Heap} {K : PySem.W.Frag} (c : SaysP fa fn ts tf ex ps w h K) : ex K = true := (ba c.x.more).1
theorem SaysP.spec {fa : List Fa} {fn : List DefD} {ts : List Tab} {tf : List Defn} {ex : PySem.W.Frag → Bool} {ps : List SpD} {w : World} {h : Heap} {K : PySem.W.Frag} (c : SaysP fa fn ts tf ex ps w h K) (i : Nat) {d : SpD} (hd : ps[i]? = some d := by rfl) : ∃ fd, FunD K d.name d.qual d.params d.body d.scope [] (d.kws K) (d.at_ K) fd := by
  have c1 := List.all_eq_true.mp (ba c.x.more).2 d (List.mem_of_getElem? hd)
  have e : (ps.map fun d => fnA K (d.at_ K))[i]? = (ps.map SpD.val)[i]? := by rw [c.p]
  rw [List.getElem?_map, List.getElem?_map, hd] at e
  exact SpD.funD (Option.some.inj e) c1
def hookP (n : Nat) (fa : List Fa) (fn : List DefD) (ts : List Tab) (tf : List Defn) (ex : PySem.W.Frag → Bool) (ps : List SpD) : PySem.W.Hook where
  α := AlP
  obs := fun s => obsP n fa fn ts tf ex ps s.heap.get?
  val := valP fn ts ps
  says := fun w h => ∃ K : PySem.W.Frag, K.In h ∧ SaysP fa fn ts tf ex ps w h K
  of := fun w s e => by
    have e1 := congrArg (fun z : AlP => z.1) e
    have e2 := congrArg (fun z : AlP => z.2) e
    exact ⟨_, frT_in, saysX_of e1, e2⟩
  keeps := fun w h h2 ⟨K, hK, c⟩ k => ⟨K, PySem.W.Frag.In.keeps hK k, ⟨c.x.t, c.x.more, c.x.hd, c.x.out, fun p hp => k _ _ (c.x.empty p hp)⟩, c.p⟩
theorem obsP_eq {n : Nat} {fa : List Fa} {fn : List DefD} {ts : List Tab} {tf : List Defn} {ex : PySem.W.Frag → Bool} {ps : List SpD} {g : Addr → Option Obj} {s : Shared} (h : ∀ a, g a = s.heap.get? a) : obsP n fa fn ts tf ex ps g = (hookP n fa fn ts tf ex ps).obs s := by
  have e : g = s.heap.get? := funext h
  rw [e]
  rfl
end WH
/-! WU: runs of programs whose variables are integers: what a run does, in plain Lean. -/
namespace WU
open PySem PySem.Spec PyProof.Rows L2 Wy
inductive EE where
  | num (n : Int)
  | var (x : Str) (p : Int)
def EE.d : EE → PyData
  | .num n => .tuple [.str "num", .int n]
  | .var x p => .tuple [.str "var", .str x, .int p]
abbrev Env := List (Str × Int)
def look (e : Env) (x : Str) : Option Int := (e.find? fun p => decide (p.1 = x)).map (·.2)
def putE (e : Env) (x : Str) (v : Int) : Env := if (e.any fun p => decide (p.1 = x)) = true then e.map (fun p => if p.1 = x then (p.1, v) else p) else e ++ [(x, v)]
def kvE (e : Env) : List (Key × V) := e.map fun p => (.inr p.1, .int p.2)
theorem kvE_len (e : Env) : (kvE e).length = e.length := List.length_map ..
theorem key_eq (x y : Str) : decide ((.inr x : Key) = .inr y) = decide (x = y) := by
  rw [decide_eq_decide]
  exact ⟨fun e => Sum.inr.inj e, fun e => by rw [e]⟩
theorem kv_look (e : Env) (x : Str) : valV (kvE e) (.inr x) = (look e x).map V.int := by
  unfold valV look kvE
  rw [List.find?_map]
  have h : ((fun kv : Key × V => decide (kv.1 = (.inr x : Key))) ∘ fun p : Str × Int => ((.inr p.1 : Key), V.int p.2)) = fun p => decide (p.1 = x) := funext fun p => key_eq p.1 x
  rw [h]
  cases e.find? fun p => decide (p.1 = x) <;> rfl
theorem kv_put (e : Env) (x : Str) (v : Int) : putK (kvE e) (.inr x) (.int v) = kvE (putE e x v) := by
  unfold putK putE kvE
  rw [List.any_map]
  have h : ((fun kv : Key × V => decide (kv.1 = (.inr x : Key))) ∘ fun p : Str × Int => ((.inr p.1 : Key), V.int p.2)) = fun p => decide (p.1 = x) := funext fun p => key_eq p.1 x
  rw [h]
  by_cases c : (e.any fun p => decide (p.1 = x)) = true
  · rw [if_pos c, if_pos c, List.map_map, List.map_map]
    refine List.map_congr_left fun p _ => ?_
    show (if (.inr p.1 : Key) = .inr x then ((.inr p.1 : Key), V.int v) else (.inr p.1, .int p.2)) = (fun q : Str × Int => ((.inr q.1 : Key), V.int q.2)) (if p.1 = x then (p.1, v) else p)
    by_cases c2 : p.1 = x
    · rw [if_pos (by rw [c2]), if_pos c2]
    · rw [if_neg (fun z => c2 (Sum.inr.inj z)), if_neg c2]
  · rw [if_neg c, if_neg c, List.map_append]
    rfl
def EE.ev (env : Env) : EE → Option Int
  | .num n => some n
  | .var x p => (look env x).map (· + p)
structure Cm where
  s : Nat
  l : EE
  r : EE
def Cm.d (c : Cm) : PyData := .tuple [.str "cmp", .str (WD.SG.getD c.s ""), c.l.d, c.r.d]
def Cm.ev (env : Env) (c : Cm) : Option Bool := if c.s < 6 then match c.l.ev env, c.r.ev env with
  | some a, some b => some (WD.cmpB c.s a b)
  | _, _ => none
  else none
inductive SS where
  | let_ (row : Int) (x : Str) (rg : Option (Int × Int)) (e : EE)
  | set (row : Int) (x : Str) (e : EE)
  | call (row : Int) (x f : Str) (as : List EE)
  | ite (row : Int) (c : Cm) (a b : List SS)
  | loop (row : Int) (c : Cm) (most : Int) (b : List SS)
  | check (row : Int) (c : Cm)
  | answer (row : Int) (e : EE)
  | ret (row : Int) (e : EE)
def SS.row : SS → Int
  | .let_ r .. => r
  | .set r .. => r
  | .call r .. => r
  | .ite r .. => r
  | .loop r .. => r
  | .check r .. => r
  | .answer r .. => r
  | .ret r .. => r
def SS.word : SS → Str
  | .let_ .. => "let"
  | .set .. => "set"
  | .call .. => "call"
  | .ite .. => "if"
  | .loop .. => "while"
  | .check .. => "check"
  | .answer .. => "answer"
  | .ret .. => "return"
def lohi : Option (Int × Int) → PyData × PyData
  | none => (.none, .none)
  | some (lo, hi) => (.int lo, .int hi)
mutual
def SS.d : SS → PyData
  | .let_ row x rg e => .tuple [.str "let", .int row, .str x, (lohi rg).1, (lohi rg).2, e.d]
  | .set row x e => .tuple [.str "set", .int row, .str x, e.d]
  | .call row x f as => .tuple [.str "call", .int row, .str x, .str f, .tuple (as.map EE.d)]
  | .ite row c a b => .tuple [.str "if", .int row, c.d, .tuple (SS.ds a), .tuple (SS.ds b)]
  | .loop row c most b => .tuple [.str "while", .int row, c.d, .int most, .tuple (SS.ds b)]
  | .check row c => .tuple [.str "check", .int row, c.d]
  | .answer row e => .tuple [.str "answer", .int row, e.d]
  | .ret row e => .tuple [.str "return", .int row, e.d]
def SS.ds : List SS → List PyData
  | [] => []
  | s :: r => s.d :: SS.ds r
end
theorem ds_map : ∀ b : List SS, SS.ds b = b.map SS.d
  | [] => rfl
  | s :: r => by rw [SS.ds, ds_map r]; rfl
/-- every row begins with its word and its number -/
theorem SS.head (s : SS) : ∃ r, s.d = .tuple (.str s.word :: .int s.row :: r) := by
  cases s <;> exact ⟨_, by rw [SS.d]; rfl⟩
structure St where
  env : Env
  val : Int
  evs : List PyData
  out : Option PyData
def ev2 (k : Str) (row : Int) : PyData := .tuple [.str k, .int row]
def evF (row : Int) (k : Str) : PyData := .tuple [.str "fault", .int row, .str k]
def evT (row turn : Int) : PyData := .tuple [.str "turn", .int row, .int turn]
def St.note (st : St) (d : PyData) : St := { st with evs := st.evs ++ [d] }
def St.fault (st : St) (row : Int) (k : Str) : St := { st with evs := st.evs ++ [evF row k], out := some (evF row k) }
abbrev Rg := List (Str × Int × Int)
abbrev Fs := List (Str × List Str × List SS)
def lookR {α : Type} (r : List (Str × α)) (x : Str) : Option α := (r.find? fun p => decide (p.1 = x)).map (·.2)
def SS.rng : SS → Option (Str × Int × Int)
  | .let_ _ x (some (lo, hi)) _ => some (x, lo, hi)
  | _ => none
def rngOf (b : List SS) : Rg := b.filterMap SS.rng
def evAll (env : Env) : List EE → Option (List Int)
  | [] => some []
  | e :: r => match e.ev env, evAll env r with
    | some v, some vs => some (v :: vs)
    | _, _ => none
abbrev Rs := Option (St × Bool)
abbrev Rec := Rg → List SS → St → Rs
def outR (rg : Rg) (x : Str) (v : Int) : Bool := match lookR rg x with
  | some (lo, hi) => !(decide (lo ≤ v) && decide (v ≤ hi))
  | none => false
def put (row : Int) (x : Str) (rg : Rg) (v : Int) (st : St) : Rs :=
  if outR rg x v = true then some (st.fault row "range", false)
  else if st.env.length < 1000 then some ({ st with env := putE st.env x v }, true) else none
def xW (rec : Rec) (rg : Rg) (row : Int) (c : Cm) (most : Int) (b : List SS) : Nat → Int → St → Rs
  | 0, _, _ => none
  | k + 1, turn, st => match c.ev st.env with
    | none => none
    | some false => some (st.note (ev2 "no" row), true)
    | some true => if turn = most then some ((st.note (ev2 "yes" row)).fault row "turns", false) else
      match rec rg b ((st.note (ev2 "yes" row)).note (evT row (turn + 1))) with
      | none => none
      | some (st2, false) => some (st2, false)
      | some (st2, true) => xW rec rg row c most b k (turn + 1) (st2.note (ev2 "row" row))
def goodF (ps : List Str) (vs : List Int) (body : List SS) : Prop := ps.length = vs.length ∧ ps.Nodup ∧ ((rngOf body).map (·.1)).Nodup ∧ ps.length ≤ 100 ∧ body.length ≤ 1000
instance {ps : List Str} {vs : List Int} {body : List SS} : Decidable (goodF ps vs body) := by
  unfold goodF
  infer_instance
def xS (fs : Fs) (rec : Rec) (rg : Rg) (s : SS) (st : St) : Rs := match s with
  | .let_ row x _ e => match e.ev st.env with
    | none => none
    | some v => put row x rg v st
  | .set row x e => match e.ev st.env with
    | none => none
    | some v => put row x rg v st
  | .call row x f as => match evAll st.env as, lookR fs f with
    | some vs, some (ps, body) => if goodF ps vs body then match rec (rngOf body) body ⟨ps.zip vs, 0, st.evs, st.out⟩ with
        | none => none
        | some (st2, _) => match st2.out with
          | some o => some ({ st with evs := st2.evs, out := some o }, false)
          | none => put row x rg st2.val { st with evs := st2.evs, out := none }
      else none
    | _, _ => none
  | .ite row c a b => match c.ev st.env with
    | none => none
    | some t => rec rg (if t = true then a else b) (st.note (ev2 (if t = true then "yes" else "no") row))
  | .loop row c most b => xW rec rg row c most b (most.toNat + 1) 0 st
  | .check row c => match c.ev st.env with
    | none => none
    | some true => some (st.note (ev2 "yes" row), true)
    | some false => some ((st.note (ev2 "no" row)).fault row "check", false)
  | .answer _ e => match e.ev st.env with
    | none => none
    | some v => some ({ st with out := some (.tuple [.str "answer", .int v]) }, false)
  | .ret _ e => match e.ev st.env with
    | none => none
    | some v => some ({ st with val := v }, false)
def xL (f : SS → St → Rs) : List SS → St → Rs
  | [], st => some (st, true)
  | s :: r, st => match f s (st.note (ev2 "row" s.row)) with
    | none => none
    | some (st2, false) => some (st2, false)
    | some (st2, true) => xL f r st2
def xB (fs : Fs) : Nat → Rec
  | 0 => fun _ _ _ => none
  | n + 1 => fun rg b st => xL (xS fs (xB fs n) rg) b st
/-! ### events are never taken back -/
theorem note_le (st : St) (d : PyData) : st.evs.length ≤ (st.note d).evs.length := by
  show _ ≤ (st.evs ++ [d]).length
  rw [List.length_append]
  omega
theorem fault_le (st : St) (row : Int) (k : Str) : st.evs.length ≤ (st.fault row k).evs.length := note_le st _
def Up (f : St → Rs) : Prop := ∀ st st' ok, f st = some (st', ok) → st.evs.length ≤ st'.evs.length
theorem put_up (row : Int) (x : Str) (rg : Rg) (v : Int) : Up (put row x rg v) := fun st st' ok h => by
  unfold put at h
  split at h
  · cases h
    exact fault_le st _ _
  · split at h
    · cases h
      exact Nat.le_refl _
    · cases h
theorem xW_up {rec : Rec} (hr : ∀ rg b, Up (rec rg b)) (rg : Rg) (row : Int) (c : Cm) (most : Int) (b : List SS) : ∀ k turn, Up (xW rec rg row c most b k turn)
  | 0, _ => fun st st' ok h => by cases h
  | k + 1, turn => fun st st' ok h => by
    unfold xW at h
    split at h
    · cases h
    · cases h
      exact note_le st _
    · split at h
      · cases h
        exact Nat.le_trans (note_le st _) (fault_le _ _ _)
      · split at h
        · cases h
        · rename_i st2 e
          cases h
          exact Nat.le_trans (Nat.le_trans (note_le st _) (note_le _ _)) (hr _ _ _ _ _ e)
        · rename_i st2 e
          exact Nat.le_trans (Nat.le_trans (Nat.le_trans (note_le st _) (note_le _ _)) (hr _ _ _ _ _ e)) (Nat.le_trans (note_le _ _) (xW_up hr rg row c most b k (turn + 1) _ _ _ h))
theorem xS_up {fs : Fs} {rec : Rec} (hr : ∀ rg b, Up (rec rg b)) (rg : Rg) (s : SS) : Up (xS fs rec rg s) := fun st st' ok h => by
  unfold xS at h
  split at h
  · split at h
    · cases h
    · exact put_up _ _ _ _ _ _ _ h
  · split at h
    · cases h
    · exact put_up _ _ _ _ _ _ _ h
  · split at h
    · split at h
      · split at h
        · cases h
        · rename_i st2 ok2 e
          have e2 : st.evs.length ≤ st2.evs.length := hr _ _ ⟨_, 0, st.evs, st.out⟩ _ _ e
          split at h
          · cases h
            exact e2
          · exact Nat.le_trans e2 (put_up _ _ _ _ ⟨st.env, st.val, st2.evs, none⟩ _ _ h)
      · cases h
    · cases h
  · split at h
    · cases h
    · exact Nat.le_trans (note_le st _) (hr _ _ _ _ _ h)
  · exact xW_up hr _ _ _ _ _ _ _ _ _ _ h
  · split at h
    · cases h
    · cases h
      exact note_le st _
    · cases h
      exact Nat.le_trans (note_le st _) (fault_le _ _ _)
  · split at h
    · cases h
    · cases h
      exact Nat.le_refl _
  · split at h
    · cases h
    · cases h
      exact Nat.le_refl _
theorem xL_up {f : SS → St → Rs} (hf : ∀ s, Up (f s)) : ∀ b, Up (xL f b)
  | [] => fun st st' ok h => by
    cases h
    exact Nat.le_refl _
  | s :: r => fun st st' ok h => by
    unfold xL at h
    split at h
    · cases h
    · rename_i st2 e
      cases h
      exact Nat.le_trans (note_le st _) (hf _ _ _ _ e)
    · rename_i st2 e
      exact Nat.le_trans (Nat.le_trans (note_le st _) (hf _ _ _ _ e)) (xL_up hf r _ _ _ h)
theorem xB_up (fs : Fs) : ∀ n rg b, Up (xB fs n rg b)
  | 0, _, _ => fun st st' ok h => by cases h
  | n + 1, rg, b => fun st st' ok h => xL_up (fun s => xS_up (xB_up fs n) rg s) b st st' ok h
/-! ### the heap of a run -/
def noT : HO → Bool
  | .tbl _ => false
  | .ext _ => false
  | _ => true
def noTup : HO → Bool
  | .tup _ => false
  | _ => true
/-- what stands is kept, but for the objects of S -/
structure Fr (T : List (Addr × Str)) (S : List Addr) (H H' : Hp) : Prop where
  k : ∀ b o, b ∉ S → noT o = true → H b = some o → H' b = some o
  t : LamX.Tabs T H → LamX.Tabs T H'
  tk : TK H H'
section
variable {T : List (Addr × Str)} {S S' : List Addr} {H H1 H2 H' : Hp} {a b : Addr}
theorem Fr.refl : Fr T S H H := ⟨fun _ _ _ _ e => e, fun t => t, TK.refl H⟩
theorem Fr.trans (a : Fr T S H H1) (b : Fr T S H1 H2) : Fr T S H H2 := ⟨fun c o n z e => b.k c o n z (a.k c o n z e), fun t => b.t (a.t t), a.tk.trans b.tk⟩
theorem Fr.mono (a : Fr T S H H1) (h : ∀ x ∈ S, x ∈ S') : Fr T S' H H1 := ⟨fun c o n z e => a.k c o (fun m => n (h c m)) z e, a.t, a.tk⟩
theorem Fr.of (s : Same H H') : Fr T S H H' := ⟨fun c o _ _ e => s c o e, fun t => t.ext s, s.tk⟩
theorem Fr.lam (e : LamX.ExtN H H') (t : LamX.Tabs T H') : Fr T S H H' := ⟨fun c o _ z h => e c o h (fun ps q => by rw [q] at z; cases z), fun _ => t, WL.ExtN.tk e⟩
theorem Fr.chg {o : HO} (c : Chg a H H') (e : H a = some o) (n : noT o = true) (n2 : noTup o = true) : Fr T [a] H H' := by
  refine ⟨fun b u m _ h => c.at h (fun z => m (by rw [z]; exact List.mem_singleton.mpr rfl)), fun t p hp => ?_, fun b xs h => c.at h (fun z => ?_)⟩
  · obtain ⟨ps, h1, h2, h3⟩ := t p hp
    refine ⟨ps, c.at h1 (fun z => ?_), h2, fun pos cv g => ?_⟩
    · rw [z, e] at h1
      cases h1
      cases n
    · obtain ⟨d, e1, e2⟩ := h3 pos cv g
      refine ⟨d, e1, c.at e2 (fun z => ?_)⟩
      rw [z, e] at e2
      cases e2
      cases n
  · rw [z, e] at h
    cases h
    cases n2
/-- a thing that was made in between may change -/
theorem Fr.drop (f : Fr T S H H1) (g : Fr T (S ++ S') H1 H2) (h : ∀ x ∈ S', ∀ o, noT o = true → H x ≠ some o) : Fr T S H H2 :=
  ⟨fun c o n z e => g.k c o (fun m => (List.mem_append.mp m).elim n (fun m => h c m o z e)) z (f.k c o n z e), fun t => g.t (f.t t), f.tk.trans g.tk⟩
def OutV (H : Hp) (ov : V) : Option PyData → Prop
  | none => ov = .non
  | some d => Tp H ov d ∧ ov ≠ .non
theorem OutV.tk {ov : V} {out : Option PyData} (k : TK H H') (h : OutV H ov out) : OutV H' ov out := by
  cases out with
  | none => exact h
  | some d => exact ⟨Tp.tk k h.1, h.2⟩
/-- the addresses of a runner, of a visit -/
structure RA where
  rn : Addr
  dr : Addr
  ev : Addr
  fd : Addr
  wt : Addr
  dw : Addr
  pl : Addr
structure VA where
  vi : Addr
  dv : Addr
  vd : Addr
  rd : Addr
abbrev rnF (ov : V) (R : RA) : List (Str × V) := [("outcome", ov), ("events", .ref R.ev), ("met", .non), ("functions", .ref R.fd), ("_watch", .ref R.wt)]
abbrev viF (A : VA) (val : Int) : List (Str × V) := [("variables", .ref A.vd), ("ranges", .ref A.rd), ("value", .int val)]
structure RunAt (K : PySem.W.Frag) (H : Hp) (R : RA) (evs : List PyData) (out : Option PyData) : Prop where
  ins : ∃ ov, H R.rn = some (.ins (He.ga K "Runner") R.dr (rnF ov R)) ∧ OutV H ov out
  evl : ∃ us, H R.ev = some (.lst us) ∧ TpAll H us evs
  wat : H R.wt = some (.ins (He.ga K "Watch") R.dw [("progress", .int 0), ("_place", .ref R.pl)])
  pl : ∀ H, SqT K H R.pl []
def RngAt (H : Hp) (rd : Addr) (rg : Rg) : Prop := ∃ kvs, H rd = some (.dK kvs) ∧ ∀ x, (lookR rg x = none → valV kvs (.inr x) = none) ∧ ∀ lo hi, lookR rg x = some (lo, hi) → ∃ t, valV kvs (.inr x) = some (.ref t) ∧ H t = some (.tup [.int lo, .int hi])
structure VisAt (K : PySem.W.Frag) (H : Hp) (A : VA) (rg : Rg) (env : Env) (val : Int) : Prop where
  ins : H A.vi = some (.ins (He.ga K "Visit") A.dv (viF A val))
  var : H A.vd = some (.dK (kvE env))
  rng : RngAt H A.rd rg
def FunsAt (H : Hp) (fd : Addr) (fs : Fs) : Prop := ∃ kvs, H fd = some (.dK kvs) ∧ ∀ f ps body, lookR fs f = some (ps, body) → ∃ t u v, valV kvs (.inr f) = some (.ref t) ∧ H t = some (.tup [u, v]) ∧ Tp H u (.tuple (ps.map PyData.str)) ∧ Tp H v (.tuple (SS.ds body))
/-- all these stand apart -/
structure Apt (R : RA) (A : VA) : Prop where
  n1 : R.rn ≠ R.ev
  n2 : R.rn ≠ A.vi
  n3 : R.rn ≠ A.vd
  n4 : R.ev ≠ A.vi
  n5 : R.ev ≠ A.vd
  n6 : A.vi ≠ A.vd
  w1 : R.wt ≠ R.rn
  w2 : R.wt ≠ R.ev
  w3 : R.wt ≠ A.vi
  w4 : R.wt ≠ A.vd
  f1 : R.fd ≠ R.rn
  f2 : R.fd ≠ R.ev
  f3 : R.fd ≠ A.vi
  f4 : R.fd ≠ A.vd
  r1 : A.rd ≠ R.rn
  r2 : A.rd ≠ R.ev
  r3 : A.rd ≠ A.vi
  r4 : A.rd ≠ A.vd
variable {K : PySem.W.Frag} {R : RA} {A : VA} {evs : List PyData} {out : Option PyData} {rg : Rg} {env : Env} {val : Int} {fs : Fs}
theorem RunAt.fr (h : RunAt K H R evs out) (f : Fr T S H H') (n1 : R.rn ∉ S) (n2 : R.ev ∉ S) (n3 : R.wt ∉ S) : RunAt K H' R evs out := by
  obtain ⟨⟨ov, e1, o1⟩, ⟨us, e2, t2⟩, e3, p⟩ := h
  exact ⟨⟨ov, f.k _ _ n1 rfl e1, o1.tk f.tk⟩, ⟨us, f.k _ _ n2 rfl e2, t2.tk f.tk⟩, f.k _ _ n3 rfl e3, p⟩
theorem RngAt.fr {rd : Addr} (h : RngAt H rd rg) (f : Fr T S H H') (n : rd ∉ S) : RngAt H' rd rg := by
  obtain ⟨kvs, e, g⟩ := h
  exact ⟨kvs, f.k _ _ n rfl e, fun x => ⟨(g x).1, fun lo hi l => let ⟨t, h1, h2⟩ := (g x).2 lo hi l; ⟨t, h1, f.tk _ _ h2⟩⟩⟩
theorem VisAt.fr (h : VisAt K H A rg env val) (f : Fr T S H H') (n1 : A.vi ∉ S) (n2 : A.vd ∉ S) (n3 : A.rd ∉ S) : VisAt K H' A rg env val := ⟨f.k _ _ n1 rfl h.ins, f.k _ _ n2 rfl h.var, h.rng.fr f n3⟩
theorem FunsAt.fr {fd : Addr} (h : FunsAt H fd fs) (f : Fr T S H H') (n : fd ∉ S) : FunsAt H' fd fs := by
  obtain ⟨kvs, e, g⟩ := h
  exact ⟨kvs, f.k _ _ n rfl e, fun x ps b l => let ⟨t, u, v, h1, h2, h3, h4⟩ := g x ps b l; ⟨t, u, v, h1, f.tk _ _ h2, h3.tk f.tk, h4.tk f.tk⟩⟩
end
/-- an expression that is never reached -/
theorem pe_never {X : Cx} {e : Expr} : PE X e (fun _ _ _ => False) := ⟨fun pins s σ H Q I h => h.elim⟩
theorem met_never {P : Program} {w : World} {K : PySem.W.Frag} {mg : Str → Option Value} {base : Heap} {C m qual : Str} {st : Stmt} {ps : List Str} {k : Nat} {sp : Sp} (F : WO.MetOk K C m qual st) (cl : Cls K (He.ga K C)) (hb : ∀ f fd, FunD K m qual (defArgs st) (defBody st) (defScope st) [] [] f fd → Binds K fd ps []) (no : ∀ vs H Q E, ¬ sp vs H Q E) : C8.Met P w K mg base k (He.ga K C) m sp [] := by
  obtain ⟨f, fd, F, hm⟩ := F.ex
  exact ⟨f, fd, ps, [], cl, hm, ⟨fun vs H Q E h => absurd h (no _ _ _ _), fun _ _ _ _ _ _ _ _ _ _ _ _ _ h => absurd h (no _ _ _ _)⟩, hb f fd F, .nil⟩
/-! ### a dict made of a tuple's items -/
def LoopD (J : It) (g : TG) (tt : TT) (tk tv : TE) (vs : List Nat) (σ : L2.St) (H1 : Hp) (Q : VK) : Prop := ∀ D, H1 D = none → ∃ W : Nat → Nat → Hp → Prop, (∃ m, W 0 m (upd H1 D (.dK []))) ∧ ∀ i m H, W i m H →
  (J.stop i H ∧ Q (.ref D) H) ∨ (J.go i H ∧ ∃ Nx : Hp → Prop, (∀ H', Nx H' → ∃ m', m' < m ∧ W (i + 1) m' H') ∧ ∀ x H', J.yld i H x H' → g x (wipe σ vs) H' fun σ2 H2 => wipe σ2 vs = wipe σ vs ∧ tt σ2 H2 fun b H3 =>
    if b = true then tk σ2 H3 fun y H4 => tv σ2 H4 fun z H5 => ∃ kvs k, y = kV k ∧ H5 D = some (.dK kvs) ∧ kvs.length < sizeLine ∧ Nx (upd H5 D (.dK (putK kvs k z))) else Nx H3)
theorem e_dc {wi : TI} {g : TG} {tt : TT} {tk tv : TE} {vs : List Nat} {σ : L2.St} {H : Hp} {Q : VK} (h : wi σ H fun J H1 => LoopD J g tt tk tv vs σ H1 Q) : tDc wi g tt tk tv vs σ H Q := h
theorem d_accT {K : PySem.W.Frag} {a : Addr} {xs : List V} {g : TG} {tt : TT} {tk tv : TE} {vs : List Nat} {σ : L2.St} {H : Hp} {Q : VK} (hs : SqT K H a xs) (R : Nat → List (Key × V) → Hp → Prop) (mono : ∀ i kvs H H', TK H H' → R i kvs H → R i kvs H') (small : ∀ i kvs H, i ≤ xs.length → R i kvs H → kvs.length < sizeLine) (r0 : R 0 [] H)
    (step : ∀ i x H1 kvs (N : V → V → Hp → Prop) (M : Hp → Prop), xs[i]? = some x → Same H H1 → R i kvs H1 → (∀ k z H3, Same H1 H3 → R (i + 1) (putK kvs k z) H3 → N (kV k) z H3) → (∀ H3, Same H1 H3 → R (i + 1) kvs H3 → M H3) →
      g x (wipe σ vs) H1 fun σ2 H2 => wipe σ2 vs = wipe σ vs ∧ tt σ2 H2 fun b H3 => if b = true then tk σ2 H3 fun y H4 => tv σ2 H4 fun z H5 => N y z H5 else M H3)
    (post : ∀ D H2 kvs, H D = none → Same H H2 → H2 D = some (.dK kvs) → R xs.length kvs H2 → Q (.ref D) H2) : LoopD (Itt K a) g tt tk tv vs σ H Q := by
  intro D nD
  refine dc_tup (xs := xs) (fun i H1 => Same H H1 ∧ ∃ kvs, H1 D = some (.dK kvs) ∧ R i kvs H1) ⟨same_new nD, [], upd_same, mono 0 [] _ _ (same_new nD).tk r0⟩ (fun i H1 _ p => seqT p.1 hs) (fun i x H1 hx p => ?_) (fun H1 ⟨s1, kvs, e1, r1⟩ => post D H1 kvs nD s1 e1 r1)
  obtain ⟨s1, kvs, e1, r1⟩ := p
  have hi := (List.getElem?_eq_some_iff.mp hx).1
  refine step i x H1 kvs _ _ hx s1 r1 (fun k z H3 s3 r3 => ?_) (fun H3 s3 r3 => ⟨s1.trans s3, kvs, s3 _ _ e1, r3⟩)
  have e3 := s3 _ _ e1
  have c : Chg D H3 (upd H3 D (.dK (putK kvs k z))) := chg_upd
  exact ⟨kvs, k, rfl, e3, small i kvs H1 (by omega) r1, c.same (s1.trans s3) nD, _, upd_same, mono _ _ _ _ (fun b xs h => c.at h (ne_of h e3 (fun z => nomatch z))) r3⟩
/-! ### promises -/
section
variable (K : PySem.W.Frag) (T : List (Addr × Str))
def spVal : Sp := fun vs H Q _ => ∃ (v : V) (vd : Addr) (env : Env) (e : EE) (i : Int), vs = [v, .ref vd] ∧ Tp H v e.d ∧ H vd = some (.dK (kvE env)) ∧ e.ev env = some i ∧ Q (.int i) H
def spCmp : Sp := fun vs H Q _ => ∃ (v : V) (vd : Addr) (env : Env) (c : Cm) (b : Bool), vs = [v, .ref vd] ∧ Tp H v c.d ∧ H vd = some (.dK (kvE env)) ∧ c.ev env = some b ∧ Q (.bl b) H
def spTruth : Sp := fun vs H Q _ => ∃ (v : V) (vd : Addr) (env : Env) (c : Cm) (b : Bool), vs = [v, .ref vd] ∧ Tp H v c.d ∧ H vd = some (.dK (kvE env)) ∧ c.ev env = some b ∧ LamX.Tabs T H ∧ ∀ H', LamX.ExtN H H' → LamX.Tabs T H' → Q (.bl b) H'
def spWat (n : Nat) (r : V) : Sp := fun vs H Q _ => ∃ (wt dw pl : Addr) (us : List V), vs = .ref wt :: us ∧ us.length = n ∧ H wt = some (.ins (He.ga K "Watch") dw [("progress", .int 0), ("_place", .ref pl)]) ∧ SqT K H pl [] ∧ Q r H
def spAdd : Sp := fun vs H Q _ => ∃ (R : RA) (v : V) (t : Bool) (d : PyData) (evs : List PyData) (out : Option PyData), vs = [.ref R.rn, v, .bl t] ∧ RunAt K H R evs out ∧ R.rn ≠ R.ev ∧ R.wt ≠ R.ev ∧ Tp H v d ∧ evs.length < 100000 ∧ ∀ H', Fr T [R.ev] H H' → RunAt K H' R (evs ++ [d]) out → Q .non H'
def spNote : Sp := fun vs H Q _ => ∃ (R : RA) (v : V) (d : PyData) (evs : List PyData) (out : Option PyData), vs = [.ref R.rn, v] ∧ RunAt K H R evs out ∧ R.rn ≠ R.ev ∧ R.wt ≠ R.ev ∧ Tp H v d ∧ evs.length < 100000 ∧ ∀ H', Fr T [R.ev] H H' → RunAt K H' R (evs ++ [d]) out → Q .non H'
def spBegin : Sp := fun vs H Q _ => ∃ (R : RA) (sa : Addr) (u : V) (w : V) (row : Int) (r : List V) (evs : List PyData) (out : Option PyData), vs = [.ref R.rn, .ref sa, u] ∧ H sa = some (.tup (w :: .int row :: r)) ∧ RunAt K H R evs out ∧ R.rn ≠ R.ev ∧ R.wt ≠ R.ev ∧ evs.length < 100000 ∧
  ∀ H', Fr T [R.ev] H H' → RunAt K H' R (evs ++ [ev2 "row" row]) out → Q .non H'
def spFault : Sp := fun vs H Q _ => ∃ (R : RA) (sa : Addr) (w : V) (k : Str) (row : Int) (r : List V) (evs : List PyData) (out : Option PyData), vs = [.ref R.rn, .ref sa, .str k] ∧ H sa = some (.tup (w :: .int row :: r)) ∧ RunAt K H R evs out ∧ R.rn ≠ R.ev ∧ R.wt ≠ R.ev ∧ R.wt ≠ R.rn ∧ evs.length < 100000 ∧
  ∀ H', Fr T [R.rn, R.ev] H H' → RunAt K H' R (evs ++ [evF row k]) (some (evF row k)) → Q (.bl false) H'
def spJudge : Sp := fun vs H Q _ => ∃ (R : RA) (A : VA) (sa : Addr) (w u : V) (row : Int) (r : List V) (rg : Rg) (c : Cm) (b : Bool) (st : St), vs = [.ref R.rn, .ref sa, .ref A.vi] ∧ H sa = some (.tup (w :: .int row :: u :: r)) ∧ Tp H u c.d ∧ RunAt K H R st.evs st.out ∧ VisAt K H A rg st.env st.val ∧ Apt R A ∧ c.ev st.env = some b ∧ LamX.Tabs T H ∧ st.evs.length < 100000 ∧
  ∀ H', Fr T [R.ev] H H' → RunAt K H' R (st.note (ev2 (if b = true then "yes" else "no") row)).evs st.out → Q (.bl b) H'
def spEval : Sp := fun vs H Q _ => ∃ (rn : Addr) (A : VA) (sa : Addr) (xs : List V) (u : V) (e : EE) (i : Int) (rg : Rg) (env : Env) (val : Int), vs = [.ref rn, .ref sa, .ref A.vi] ∧ H sa = some (.tup xs) ∧ atI xs (-1) = some u ∧ Tp H u e.d ∧ VisAt K H A rg env val ∧ e.ev env = some i ∧ Q (.int i) H
def spGive : Sp := fun vs H Q _ => ∃ (R : RA) (A : VA) (sa : Addr) (w : V) (row : Int) (x : Str) (r : List V) (v : Int) (rg : Rg) (st st' : St) (ok : Bool), vs = [.ref R.rn, .ref sa, .int v, .ref A.vi] ∧ H sa = some (.tup (w :: .int row :: .str x :: r)) ∧ RunAt K H R st.evs st.out ∧ VisAt K H A rg st.env st.val ∧ Apt R A ∧ put row x rg v st = some (st', ok) ∧ st'.evs.length ≤ 100000 ∧
  ∀ H', Fr T [R.rn, R.ev, A.vd] H H' → RunAt K H' R st'.evs st'.out → VisAt K H' A rg st'.env st'.val → Q (.bl ok) H'
/-- one statement of a kind -/
def spAct (fs : Fs) (rec : Rec) (W : SS → Prop) : Sp := fun vs H Q _ => ∃ (R : RA) (A : VA) (u : V) (rg : Rg) (s : SS) (st st' : St) (ok : Bool), vs = [.ref R.rn, u, .ref A.vi] ∧ W s ∧ Tp H u s.d ∧ RunAt K H R st.evs st.out ∧ VisAt K H A rg st.env st.val ∧ FunsAt H R.fd fs ∧ Apt R A ∧ LamX.Tabs T H ∧ xS fs rec rg s st = some (st', ok) ∧ st'.evs.length ≤ 100000 ∧
  ∀ H', Fr T [R.rn, R.ev, A.vi, A.vd] H H' → RunAt K H' R st'.evs st'.out → VisAt K H' A rg st'.env st'.val → Q (.bl ok) H'
/-- a block -/
def spOut (fs : Fs) (rec : Rec) : Sp := fun vs H Q _ => ∃ (R : RA) (A : VA) (u : V) (rg : Rg) (b : List SS) (st st' : St) (ok : Bool), vs = [.ref R.rn, u, .ref A.vi] ∧ Tp H u (.tuple (SS.ds b)) ∧ RunAt K H R st.evs st.out ∧ VisAt K H A rg st.env st.val ∧ FunsAt H R.fd fs ∧ Apt R A ∧ LamX.Tabs T H ∧ rec rg b st = some (st', ok) ∧ st'.evs.length ≤ 100000 ∧
  ∀ H', Fr T [R.rn, R.ev, A.vi, A.vd] H H' → RunAt K H' R st'.evs st'.out → VisAt K H' A rg st'.env st'.val → Q (.bl ok) H'
end
end WU
namespace WU
open PySem PySem.Spec PyProof.Rows L2 Wy
open WQ (tpL)
/-! ### the rows as they stand -/
theorem tp_cons {H : Hp} {v : V} {x : Str} {d : List PyData} (h : Tp H v (.tuple (.str x :: d))) : ∃ a us, v = .ref a ∧ H a = some (.tup (.str x :: us)) ∧ TpAll H us d := by
  obtain ⟨a, us, rfl, e, t⟩ := tpL h
  cases t with | cons t1 t2 =>
  cases t1
  exact ⟨a, _, rfl, e, t2⟩
theorem tp_int2 {H : Hp} {us : List V} {i : Int} {d : List PyData} (h : TpAll H us (.int i :: d)) : ∃ vs, us = .int i :: vs ∧ TpAll H vs d := by
  cases h with | cons t1 t2 =>
  cases t1
  exact ⟨_, rfl, t2⟩
theorem tp_str2 {H : Hp} {us : List V} {x : Str} {d : List PyData} (h : TpAll H us (.str x :: d)) : ∃ vs, us = .str x :: vs ∧ TpAll H vs d := by
  cases h with | cons t1 t2 =>
  cases t1
  exact ⟨_, rfl, t2⟩
theorem tp_one {H : Hp} {us : List V} {d : PyData} {r : List PyData} (h : TpAll H us (d :: r)) : ∃ v vs, us = v :: vs ∧ Tp H v d ∧ TpAll H vs r := by
  cases h with | cons t1 t2 => exact ⟨_, _, rfl, t1, t2⟩
theorem tp_end {H : Hp} {us : List V} (h : TpAll H us []) : us = [] := by
  cases h
  rfl
section
variable {H : Hp} {u : V} {row : Int} {x f : Str} {e : EE} {c : Cm} {rg : Option (Int × Int)}
theorem let_at (h : Tp H u (SS.let_ row x rg e).d) : ∃ sa v4 v5 v6, u = .ref sa ∧ H sa = some (.tup [.str "let", .int row, .str x, v4, v5, v6]) ∧ Tp H v4 (lohi rg).1 ∧ Tp H v5 (lohi rg).2 ∧ Tp H v6 e.d := by
  rw [SS.d] at h
  obtain ⟨sa, us, rfl, e1, t_1⟩ := tp_cons h
  obtain ⟨us, rfl, t_2⟩ := tp_int2 t_1
  obtain ⟨us, rfl, t_3⟩ := tp_str2 t_2
  obtain ⟨v4, us, rfl, t4, t_4⟩ := tp_one t_3
  obtain ⟨v5, us, rfl, t5, t_5⟩ := tp_one t_4
  obtain ⟨v6, us, rfl, t6, t_6⟩ := tp_one t_5
  obtain rfl := tp_end t_6
  exact ⟨sa, v4, v5, v6, rfl, e1, t4, t5, t6⟩
theorem set_at (h : Tp H u (SS.set row x e).d) : ∃ sa v4, u = .ref sa ∧ H sa = some (.tup [.str "set", .int row, .str x, v4]) ∧ Tp H v4 e.d := by
  rw [SS.d] at h
  obtain ⟨sa, us, rfl, e1, t_1⟩ := tp_cons h
  obtain ⟨us, rfl, t_2⟩ := tp_int2 t_1
  obtain ⟨us, rfl, t_3⟩ := tp_str2 t_2
  obtain ⟨v4, us, rfl, t4, t_4⟩ := tp_one t_3
  obtain rfl := tp_end t_4
  exact ⟨sa, v4, rfl, e1, t4⟩
theorem call_at {as : List EE} (h : Tp H u (SS.call row x f as).d) : ∃ sa v4 vs, u = .ref sa ∧ H sa = some (.tup [.str "call", .int row, .str x, .str f, .ref v4]) ∧ H v4 = some (.tup vs) ∧ TpAll H vs (as.map EE.d) := by
  rw [SS.d] at h
  obtain ⟨sa, us, rfl, e1, t_1⟩ := tp_cons h
  obtain ⟨us, rfl, t_2⟩ := tp_int2 t_1
  obtain ⟨us, rfl, t_3⟩ := tp_str2 t_2
  obtain ⟨us, rfl, t_4⟩ := tp_str2 t_3
  obtain ⟨v4, us, rfl, t4, t_5⟩ := tp_one t_4
  obtain rfl := tp_end t_5
  obtain ⟨a, vs, rfl, e4, t4⟩ := tpL t4
  exact ⟨sa, a, vs, rfl, e1, e4, t4⟩
theorem ite_at {a b : List SS} (h : Tp H u (SS.ite row c a b).d) : ∃ sa v3 v4 v5, u = .ref sa ∧ H sa = some (.tup [.str "if", .int row, v3, v4, v5]) ∧ Tp H v3 c.d ∧ Tp H v4 (.tuple (SS.ds a)) ∧ Tp H v5 (.tuple (SS.ds b)) := by
  rw [SS.d] at h
  obtain ⟨sa, us, rfl, e1, t_1⟩ := tp_cons h
  obtain ⟨us, rfl, t_2⟩ := tp_int2 t_1
  obtain ⟨v3, us, rfl, t3, t_3⟩ := tp_one t_2
  obtain ⟨v4, us, rfl, t4, t_4⟩ := tp_one t_3
  obtain ⟨v5, us, rfl, t5, t_5⟩ := tp_one t_4
  obtain rfl := tp_end t_5
  exact ⟨sa, v3, v4, v5, rfl, e1, t3, t4, t5⟩
theorem loop_at {most : Int} {b : List SS} (h : Tp H u (SS.loop row c most b).d) : ∃ sa v3 v5, u = .ref sa ∧ H sa = some (.tup [.str "while", .int row, v3, .int most, v5]) ∧ Tp H v3 c.d ∧ Tp H v5 (.tuple (SS.ds b)) := by
  rw [SS.d] at h
  obtain ⟨sa, us, rfl, e1, t_1⟩ := tp_cons h
  obtain ⟨us, rfl, t_2⟩ := tp_int2 t_1
  obtain ⟨v3, us, rfl, t3, t_3⟩ := tp_one t_2
  obtain ⟨us, rfl, t_4⟩ := tp_int2 t_3
  obtain ⟨v5, us, rfl, t5, t_5⟩ := tp_one t_4
  obtain rfl := tp_end t_5
  exact ⟨sa, v3, v5, rfl, e1, t3, t5⟩
theorem check_at (h : Tp H u (SS.check row c).d) : ∃ sa v3, u = .ref sa ∧ H sa = some (.tup [.str "check", .int row, v3]) ∧ Tp H v3 c.d := by
  rw [SS.d] at h
  obtain ⟨sa, us, rfl, e1, t_1⟩ := tp_cons h
  obtain ⟨us, rfl, t_2⟩ := tp_int2 t_1
  obtain ⟨v3, us, rfl, t3, t_3⟩ := tp_one t_2
  obtain rfl := tp_end t_3
  exact ⟨sa, v3, rfl, e1, t3⟩
theorem answer_at (h : Tp H u (SS.answer row e).d) : ∃ sa v3, u = .ref sa ∧ H sa = some (.tup [.str "answer", .int row, v3]) ∧ Tp H v3 e.d := by
  rw [SS.d] at h
  obtain ⟨sa, us, rfl, e1, t_1⟩ := tp_cons h
  obtain ⟨us, rfl, t_2⟩ := tp_int2 t_1
  obtain ⟨v3, us, rfl, t3, t_3⟩ := tp_one t_2
  obtain rfl := tp_end t_3
  exact ⟨sa, v3, rfl, e1, t3⟩
theorem ret_at (h : Tp H u (SS.ret row e).d) : ∃ sa v3, u = .ref sa ∧ H sa = some (.tup [.str "return", .int row, v3]) ∧ Tp H v3 e.d := by
  rw [SS.d] at h
  obtain ⟨sa, us, rfl, e1, t_1⟩ := tp_cons h
  obtain ⟨us, rfl, t_2⟩ := tp_int2 t_1
  obtain ⟨v3, us, rfl, t3, t_3⟩ := tp_one t_2
  obtain rfl := tp_end t_3
  exact ⟨sa, v3, rfl, e1, t3⟩
end
theorem note_len (st : St) (d : PyData) : (st.note d).evs.length = st.evs.length + 1 := by
  show (st.evs ++ [d]).length = _
  rw [List.length_append]
  rfl
theorem fault_len (st : St) (row : Int) (k : Str) : (st.fault row k).evs.length = st.evs.length + 1 := note_len st _
theorem zip_kvE : ∀ (ps : List Str) (vs : List Int), ((ps.zip (vs.map V.int)).map fun q => ((.inr q.1 : Key), q.2)) = kvE (ps.zip vs)
  | [], _ => rfl
  | _ :: _, [] => rfl
  | p :: ps, v :: vs => by
    have ih := zip_kvE ps vs
    show ((.inr p : Key), V.int v) :: ((ps.zip (vs.map V.int)).map fun q => ((.inr q.1 : Key), q.2)) = (.inr p, .int v) :: kvE (ps.zip vs)
    rw [ih]
/-- a fresh visit stands apart -/
theorem Apt.new {K : PySem.W.Frag} {H : Hp} {R : RA} {A A' : VA} {evs : List PyData} {out : Option PyData} {fs : Fs} (hA : Apt R A) (hR : RunAt K H R evs out) (hF : FunsAt H R.fd fs) (n1 : H A'.vi = none) (n2 : H A'.vd = none) (n3 : H A'.rd = none) (m1 : A'.vi ≠ A'.vd) (m2 : A'.rd ≠ A'.vi) (m3 : A'.rd ≠ A'.vd) : Apt R A' := by
  obtain ⟨⟨ov, e1, _⟩, ⟨us, e2, _⟩, e3, _⟩ := hR
  obtain ⟨kvs, e4, _⟩ := hF
  exact { n1 := hA.n1, n2 := ne_of_none e1 n1, n3 := ne_of_none e1 n2, n4 := ne_of_none e2 n1, n5 := ne_of_none e2 n2, n6 := m1, w1 := hA.w1, w2 := hA.w2, w3 := ne_of_none e3 n1, w4 := ne_of_none e3 n2, f1 := hA.f1, f2 := hA.f2, f3 := ne_of_none e4 n1, f4 := ne_of_none e4 n2, r1 := (ne_of_none e1 n3).symm, r2 := (ne_of_none e2 n3).symm, r3 := m2, r4 := m3 }
theorem strs_of {H : Hp} : ∀ {zs : List Str} {vs : List V}, TpAll H vs (zs.map PyData.str) → vs = zs.map V.str
  | [], _, h => by cases h; rfl
  | z :: zs, _, h => by
    cases h with
    | cons h1 h2 =>
      cases h1
      rw [strs_of h2]
      rfl
theorem evAll_len {env : Env} : ∀ {as : List EE} {vs : List Int}, evAll env as = some vs → as.length = vs.length
  | [], vs, h => by cases h; rfl
  | e :: r, vs, h => by
    unfold evAll at h
    split at h
    · rename_i v ws e1 e2
      cases h
      rw [List.length_cons, List.length_cons, evAll_len e2]
    · cases h
theorem evAll_get {env : Env} : ∀ {as : List EE} {vs : List Int} {j : Nat} {e : EE}, evAll env as = some vs → as[j]? = some e → ∃ v, e.ev env = some v ∧ vs[j]? = some v
  | [], vs, j, e, h, g => by cases g
  | a :: r, vs, j, e, h, g => by
    unfold evAll at h
    split at h
    · rename_i v ws e1 e2
      cases h
      cases j with
      | zero =>
        cases g
        exact ⟨v, e1, rfl⟩
      | succ j =>
        have g2 : r[j]? = some e := g
        exact evAll_get (vs := ws) e2 g2
    · cases h
/-! ### which def carries a row out -/
def isAsg : SS → Prop
  | .let_ .. => True
  | .set .. => True
  | _ => False
def isCall : SS → Prop
  | .call .. => True
  | _ => False
def isIte : SS → Prop
  | .ite .. => True
  | _ => False
def isLoop : SS → Prop
  | .loop .. => True
  | _ => False
def isCheck : SS → Prop
  | .check .. => True
  | _ => False
def isAns : SS → Prop
  | .answer .. => True
  | _ => False
def isRet : SS → Prop
  | .ret .. => True
  | _ => False
end WU
namespace WU
open PySem PySem.Spec PyProof.Rows L2 Wy
/-! ### a property -/
structure PrC (P : Program) (w : World) (K : PySem.W.Frag) (mg : Str → Option Value) (base : Heap) (k : Nat) (C : Addr) (f : Str) (sp : Sp) : Prop where
  ex : ∃ p g fd ps, PropOf K C f p g ∧ FnOk P w K mg base CX0 k g fd ps sp ∧ Binds K fd ps [] ∧ Cls K C
theorem prc_of {P : Program} {w : World} {K : PySem.W.Frag} {mg : Str → Option Value} {base : Heap} {C p g : Addr} {f qual : Str} {st : Stmt} {N ps : List Str} {k : Nat} {sp : Sp} (F : PropOf K C f p g ∧ ∃ fd, FunD K f qual (defArgs st) (defBody st) (defScope st) [] [] g fd) (cl : Cls K C) (S : FnScope N ps (defScope st))
    (hb : ∀ g fd, FunD K f qual (defArgs st) (defBody st) (defScope st) [] [] g fd → Binds K fd ps []) (len : ∀ vs H Q E, sp vs H Q E → vs.length = ps.length)
    (body : ∀ (f : Addr) (cdv : Value) (A : Around) (outer : List PySem.Env) (s : Shared) (H : Hp) (vs : List V) (Q : VK) (E : XK), Room k (A.deeper (envOfC qual (defScope st) s.heap.objs.size f cdv)) → sp vs H Q E →
      ∃ t, PSs (cxOf CX0 P w K mg base N qual (defScope st) f cdv A outer s H E).nox (defBody st) t ∧ t { nx := fun _ H' => Q .non H', rt := Q } (start N vs) H) : PrC P w K mg base (k + 1) C f sp := by
  obtain ⟨hp, fd, F⟩ := F
  refine ⟨p, g, fd, ps, hp, F.ok S len fun cdv A outer s H vs Q E hr h => ?_, hb g fd F, cl⟩
  obtain ⟨t, h1, h2⟩ := body g cdv A outer s H vs Q E hr h
  exact ⟨t, PSs.nox h1, h2⟩
theorem pe_pr {X : Cx} {C : Addr} {f : Str} {k j : Nat} {sp : Sp} {e : Expr} {te : TE} {pos : Pos} (c : PrC X.prog X.w X.K X.mg X.base k C f sp) (hr : Room j X.A) (hk : k + 1 ≤ j) (he : PE X e te) (hab : attributeBase e f X.env (eval e X.env) = eval e X.env := by rfl) : PE X (.Attribute e f pos) (tProp C sp [] C8.E0 te) := by
  obtain ⟨p, g, fd, ps, hp, F, b, cl⟩ := c.ex
  exact pe_prop he cl hp F (hr.mono hk) b .nil pass0 hab
def KProp (C : Addr) (sp : Sp) (E : XK) (x : V) (H : Hp) (Q : VK) : Prop := ∃ a dx fs, x = .ref a ∧ H a = some (.ins C dx fs) ∧ sp (.ref a :: []) H Q E
theorem e_prop {C : Addr} {sp : Sp} {E : XK} {te : TE} {σ : L2.St} {H : Hp} {Q : VK} (h : te σ H fun x H1 => KProp C sp E x H1 Q) : tProp C sp [] E te σ H Q := h
theorem k_prop {C a dx : Addr} {fs : List (Str × V)} {sp : Sp} {E : XK} {H : Hp} {Q : VK} (e : H a = some (.ins C dx fs)) (h : sp [.ref a] H Q E) : KProp C sp E (.ref a) H Q := ⟨a, dx, fs, rfl, e, h⟩
theorem pe_callCK {K : PySem.W.Frag} {X : Cx} {id : String} {x : Str} {e : Expr} {es : List Expr} {p pos : Pos} {t : TA} {r : PySem.W.Frag → List V → Hp → VK → Prop} (hc : ∀ X : Cx, X.calm = true → CallR X (.builtin id) (r X.K)) (hg : Gl X x) (hm : X.mg x = none) (hv : bootBuiltins x = some (.builtin id)) (ha : PA X (e :: es) t) (hK : X.K = K := by rfl) (hcalm : X.calm = true := by rfl) (hn : x ≠ "__name__" := by decide) (hdb : (x == ("__debug__" : Str)) = false := by decide)
    (he : starEach (e :: es) X.env = (false, eval e X.env) :: starEach es X.env := by rfl) (hpl : (backTo pos (starEach es X.env)).any (·.1) = false := by rfl) : PE X (.Call (.Name x p) (e :: es) [] pos) (tCB (r K) t) := hK ▸ WN.pe_callC hc hg hm hv ha hcalm hn hdb he hpl
/-! ### a list of two clauses, the inner one over a range of one -/
def LoopC2 (J : It) (g : TG) (tt : TT) (wi1 : TI) (g1 : TG) (tt1 : TT) (te : TE) (vs vs1 : List Nat) (σ : L2.St) (H1 : Hp) (Q : VK) : Prop := ∀ D, H1 D = none → ∃ W : Nat → Nat → Hp → Prop, (∃ m, W 0 m (upd H1 D (.lst []))) ∧ ∀ i m H, W i m H →
  (J.stop i H ∧ Q (.ref D) H) ∨ (J.go i H ∧ ∃ Nx : Hp → Prop, (∀ H', Nx H' → ∃ m', m' < m ∧ W (i + 1) m' H') ∧ ∀ x H', J.yld i H x H' → g x (wipe σ vs) H' fun σ2 H2 => wipe σ2 vs = wipe σ vs ∧ tt σ2 H2 fun b H3 =>
    if b = true then wi1 σ2 H3 fun J1 H4 => ∃ W1 : Nat → Nat → Hp → Prop, (∃ m, W1 0 m H4) ∧ ∀ j k H, W1 j k H →
      (J1.stop j H ∧ Nx H) ∨ (J1.go j H ∧ ∃ Nx1 : Hp → Prop, (∀ H', Nx1 H' → ∃ k', k' < k ∧ W1 (j + 1) k' H') ∧ ∀ x H', J1.yld j H x H' → g1 x (wipe σ2 vs1) H' fun σ3 H5 => wipe σ3 vs1 = wipe σ2 vs1 ∧ tt1 σ3 H5 fun b H6 =>
        if b = true then te σ3 H6 fun y H7 => ∃ acc, H7 D = some (.lst acc) ∧ acc.length < sizeLine ∧ Nx1 (upd H7 D (.lst (acc ++ [y]))) else Nx1 H6)
    else Nx H3)
theorem e_lc2 {wi : TI} {g : TG} {tt : TT} {wi1 : TI} {g1 : TG} {tt1 : TT} {te : TE} {vs vs1 : List Nat} {σ : L2.St} {H : Hp} {Q : VK} (h : wi σ H fun J H1 => LoopC2 J g tt wi1 g1 tt1 te vs vs1 σ H1 Q) : tLc2 wi g tt wi1 g1 tt1 te vs vs1 σ H Q := h
theorem c2_one {K : PySem.W.Frag} {a : Addr} {xs : List V} {g g1 : TG} {te : TE} {wi1 : TI} {vs vs1 : List Nat} {σ : L2.St} {H : Hp} {Q : VK} (hs : SqT K H a xs) (R : Nat → List V → Hp → Prop) (mono : ∀ i acc H H', TK H H' → R i acc H → R i acc H') (small : ∀ i acc H, i ≤ xs.length → R i acc H → acc.length < sizeLine) (r0 : R 0 [] H)
    (step : ∀ i x H1 acc (N : VK) (M M' : Hp → Prop) (C : L2.St → It → Hp → Prop), xs[i]? = some x → Same H H1 → R i acc H1 → (∀ y H3, Same H1 H3 → R (i + 1) (acc ++ [y]) H3 → N y H3) →
      (∀ σ2 lo H4, Same H1 H4 → (g1 (.int (lo + ((0 : Nat) : Int))) (wipe σ2 vs1) H4 fun σ3 H5 => wipe σ3 vs1 = wipe σ2 vs1 ∧ tYes σ3 H5 fun b H6 => if b = true then te σ3 H6 N else M H6) → C σ2 (Itr lo 1) H4) →
      g x (wipe σ vs) H1 fun σ2 H2 => wipe σ2 vs = wipe σ vs ∧ tYes σ2 H2 fun b H3 => if b = true then wi1 σ2 H3 (C σ2) else M' H3)
    (post : ∀ D H2 ys, H D = none → Same H H2 → H2 D = some (.lst ys) → R xs.length ys H2 → Q (.ref D) H2) : LoopC2 (Itt K a) g tYes wi1 g1 tYes te vs vs1 σ H Q := by
  intro D nD
  refine ⟨fun i m H1 => m = xs.length - i ∧ i ≤ xs.length ∧ Same H H1 ∧ ∃ acc, H1 D = some (.lst acc) ∧ R i acc H1, ⟨xs.length, by simp, Nat.zero_le _, same_new nD, [], upd_same, mono 0 [] _ _ (same_new nD).tk r0⟩, ?_⟩
  rintro i m H1 ⟨rfl, hi, s1, acc, e1, r1⟩
  by_cases hlt : i < xs.length
  · refine .inr ⟨⟨xs, xs[i], seqT s1 hs, by simp [hlt]⟩, fun H3 => Same H H3 ∧ ∃ acc, H3 D = some (.lst acc) ∧ R (i + 1) acc H3, fun H' p => ⟨xs.length - (i + 1), by omega, rfl, hlt, p⟩, fun x H' y => ?_⟩
    obtain ⟨e, y⟩ := y
    subst e
    have hx := y xs (seqT s1 hs)
    let Nx : Hp → Prop := fun H3 => Same H H3 ∧ ∃ acc, H3 D = some (.lst acc) ∧ R (i + 1) acc H3
    let N : VK := fun y H7 => ∃ acc, H7 D = some (.lst acc) ∧ acc.length < sizeLine ∧ Nx (upd H7 D (.lst (acc ++ [y])))
    refine step i x _ acc N Nx Nx (fun σ2 J1 H4 => ∃ W1 : Nat → Nat → Hp → Prop, (∃ m, W1 0 m H4) ∧ ∀ j k H, W1 j k H →
      (J1.stop j H ∧ Nx H) ∨ (J1.go j H ∧ ∃ Nx1 : Hp → Prop, (∀ H', Nx1 H' → ∃ k', k' < k ∧ W1 (j + 1) k' H') ∧ ∀ x H', J1.yld j H x H' → g1 x (wipe σ2 vs1) H' fun σ3 H5 => wipe σ3 vs1 = wipe σ2 vs1 ∧ tYes σ3 H5 fun b H6 =>
        if b = true then te σ3 H6 fun y H7 => ∃ acc, H7 D = some (.lst acc) ∧ acc.length < sizeLine ∧ Nx1 (upd H7 D (.lst (acc ++ [y]))) else Nx1 H6)) hx s1 r1 (fun y H3 s3 r3 => ?_) (fun σ2 lo H4 s4 hh => ?_)
    · have e3 := s3 _ _ e1
      have c : Chg D H3 (upd H3 D (.lst (acc ++ [y]))) := chg_upd
      exact ⟨acc, e3, small i acc _ hi r1, c.same (s1.trans s3) nD, _, upd_same, mono _ _ _ _ (c.tk e3) r3⟩
    · refine ⟨fun j k H5 => k = 1 - j ∧ j ≤ 1 ∧ (j = 0 → H5 = H4) ∧ (j = 1 → Same H H5 ∧ ∃ acc, H5 D = some (.lst acc) ∧ R (i + 1) acc H5), ⟨1, rfl, Nat.zero_le _, fun _ => rfl, fun z => (nomatch z)⟩, ?_⟩
      rintro j k H5 ⟨rfl, hj, q0, q1⟩
      rcases Nat.lt_or_ge j 1 with hj1 | hj1
      · obtain rfl : j = 0 := by omega
        obtain rfl := q0 rfl
        refine .inr ⟨Nat.zero_lt_one, Nx, fun H6 p => ⟨0, by omega, rfl, Nat.le_refl _, fun z => (nomatch z), fun _ => p⟩, fun x H6 y => ?_⟩
        obtain ⟨e, y⟩ := y
        subst e y
        exact hh
      · exact .inl ⟨hj1, q1 (by omega)⟩
  · have e : i = xs.length := by omega
    subst e
    exact .inl ⟨⟨xs, seqT s1 hs, Nat.le_refl _⟩, post D H1 acc nD s1 e1 r1⟩
end WU
/-! WF: own exception classes over ValueError: raised, let out of a def, caught; isinstance of what was caught. -/
namespace WF
open PySem PySem.Spec PyProof.Rows L2 Wy
abbrev bmVE : List Value := [.type "ValueError", .type "Exception", .type "BaseException", .type "object"]
/-- an own exception class over ValueError without an own __init__ -/
structure ExK (K : PySem.W.Frag) (mg : Str → Option Value) (x : Str) : Prop where
  gC : mg x = some (.ref (He.ga K x))
  xP : PySem.W.excIn K (He.ga K x) bmVE "ValueError.__new__" = true
  kP : PySem.W.keepIn K (.ref (He.ga K x)) = true
  bP : PySem.W.subIn K (.ref (He.ga K x)) (.type "BaseException") = some true
  tP : PySem.W.typeIn K (.ref (He.ga K x)) = some (.type "type")
  eP : ExcC K (He.ga K x)
def b1 (K : PySem.W.Frag) (C : Addr) : Bool := PySem.W.excIn K C bmVE "ValueError.__new__" && (PySem.W.keepIn K (.ref C) && (decide (PySem.W.subIn K (.ref C) (.type "BaseException") = some true) && decide (PySem.W.typeIn K (.ref C) = some (.type "type"))))
def b2 (K : PySem.W.Frag) (C : Addr) : Bool := decide (PySem.W.findIn K (.ref C) "__getattribute__" = some (some (.builtin "BaseException.__getattribute__"))) && (decide (PySem.W.findIn K (.ref C) "__getattr__" = some none) && (PySem.W.hasDictIn K C && (decide (PySem.W.findIn K (.ref C) "__class__" = some (some (.builtin "object.__class__"))) && (decide (PySem.W.specialIn K (.builtin "object.__class__") "__get__" = some (some (.builtin "getset_descriptor.__get__"))) && (decide (PySem.W.takesIn K (.builtin "object.__class__") = some true) && decide (PySem.W.mroIn K C (.type "object") = some true))))))
def exB (K : PySem.W.Frag) (x : Str) : Bool := b1 K (He.ga K x) && b2 K (He.ga K x)
theorem exB_ok {K : PySem.W.Frag} {mg : Str → Option Value} {x : Str} (g : mg x = some (.ref (He.ga K x))) (h : exB K x = true) : ExK K mg x := by
  obtain ⟨h1, h2⟩ := He.ba h
  obtain ⟨a1, h1⟩ := He.ba h1
  obtain ⟨a2, h1⟩ := He.ba h1
  obtain ⟨a3, a4⟩ := He.ba h1
  obtain ⟨c1, h2⟩ := He.ba h2
  obtain ⟨c2, h2⟩ := He.ba h2
  obtain ⟨c3, h2⟩ := He.ba h2
  obtain ⟨c4, h2⟩ := He.ba h2
  obtain ⟨c5, h2⟩ := He.ba h2
  obtain ⟨c6, c7⟩ := He.ba h2
  exact ⟨g, a1, a2, of_decide_eq_true a3, of_decide_eq_true a4, ⟨of_decide_eq_true c1, of_decide_eq_true c2, of_decide_eq_true a3, c3, of_decide_eq_true c4, of_decide_eq_true c5, of_decide_eq_true c6, of_decide_eq_true c7⟩⟩
/-- how two classes stand to each other -/
structure Ups (K : PySem.W.Frag) (D C : Value) (b : Bool) : Prop where
  m : PySem.W.exmOne K D C = some b
  i : PySem.W.kitOne K D C = some b
def upsB (K : PySem.W.Frag) (D C : Value) (b : Bool) : Bool := decide (PySem.W.exmOne K D C = some b) && decide (PySem.W.kitOne K D C = some b)
theorem upsB_ok {K : PySem.W.Frag} {D C : Value} {b : Bool} (h : upsB K D C b = true) : Ups K D C b := by
  obtain ⟨h1, h2⟩ := He.ba h
  exact ⟨of_decide_eq_true h1, of_decide_eq_true h2⟩
/-! ### a def that may raise -/
structure CalX (P : Program) (w : World) (K : PySem.W.Frag) (mg : Str → Option Value) (base : Heap) (k : Nat) (x : Str) (sp : Sp) (dvs : List V) : Prop where
  ex : ∃ (f : Addr) (fd : FuncData) (ps : List Str) (ds : List Value), FnOk P w K mg base (L2.CX P w) k f fd ps sp ∧ mg x = some (.ref f) ∧ PySem.W.keepIn K (.ref f) = true ∧ Binds K fd ps ds ∧ Vals dvs ds
def tCallX (sp : Sp) (dvs : List V) (W : WX) (t : TA) : TE := fun σ H Q => t σ H fun vs H1 => sp (vs ++ dvs) H1 Q fun cls d H2 => W cls d σ H2
section
variable {X : Cx} {k j : Nat} {x : Str} {sp : Sp} {dvs : List V} {p pos : Pos} {e : Expr} {es : List Expr} {t : TA}
theorem pe_cX {W : WX} (c : CalX X.prog X.w X.K X.mg X.base k x sp dvs) (tk : Takes X W) (hr : Room j X.A) (hk : k ≤ j) (hg : Gl X x) (ha : PA X (e :: es) t)
    (hdb : (x == ("__debug__" : Str)) = false := by decide) (he : starEach (e :: es) X.env = (false, eval e X.env) :: starEach es X.env := by rfl) (hpl : (backTo pos (starEach es X.env)).any (·.1) = false := by rfl) :
    PE X (.Call (.Name x p) (e :: es) [] pos) (tCallX sp dvs W t) := by
  obtain ⟨f, fd, ps, ds, F, hm, kp, b, d⟩ := c.ex
  refine ⟨fun pins s σ H Q I h => ?_⟩
  refine wpAny_Call_Name_kw (ld_glob I hg hm ?_ hdb)
  refine PySem.W.callWith_K (h₀ := X.base) I.ok.mod.kin kp (thn (ha.run pos pins s σ H _ I h) fun us s1 ⟨vs, H1, I1, r, q⟩ => ⟨I1.kIn, ?_⟩) he hpl
  have r2 : Vals (vs ++ dvs) (us ++ ds) := r.append d
  have hl : (us ++ ds).length = ps.length := by rw [← r2.length]; exact F.len _ _ _ _ q
  refine wpAny_call (codeAny_mono (F.run X.A X.stack s1 H1 ⟨us, []⟩ (us ++ ds) (vs ++ dvs) Q _ (hr.mono hk) I1.env0 (b s1 us I1.kIn hl) r2 q) fun r s' hq => ?_)
  cases r with
  | error e => exact passAt tk σ pins H1 s1 e s' I1 hq
  | ok fl =>
    cases fl with
    | ret u => exact I1.after hq
    | next => exact False.elim hq
    | brk => exact False.elim hq
    | cont => exact False.elim hq
end
theorem w_cX {sp : Sp} {dvs : List V} {W : WX} {t : TA} {σ : L2.St} {H : Hp} {Q : VK} (h : t σ H fun vs H1 => sp (vs ++ dvs) H1 Q fun cls d H2 => W cls d σ H2) : tCallX sp dvs W t σ H Q := h
theorem takes0 {X : Cx} : Takes X (fun _ _ _ _ => False) := fun _ _ ⟨_, _, _, _, _, _, _, _, _, _, _, _, _, _, _, _, w⟩ => w.elim
structure MetX (P : Program) (w : World) (K : PySem.W.Frag) (mg : Str → Option Value) (base : Heap) (k : Nat) (C : Addr) (m : Str) (sp : Sp) (dvs : List V) : Prop where
  ex : ∃ (f : Addr) (fd : FuncData) (ps : List Str) (ds : List Value), Cls K C ∧ Meth K C m f ∧ FnOk P w K mg base (L2.CX P w) k f fd ps sp ∧ Binds K fd ps ds ∧ Vals dvs ds
section
variable {X : Cx} {k j : Nat} {x m : Str} {C : Addr} {sp : Sp} {dvs : List V} {p pos apos : Pos} {o e : Expr} {es : List Expr} {t : TA} {ta : TE} {E : XK}
/-- a call whose exceptions are this def's own -/
theorem pe_cR (c : CalX X.prog X.w X.K X.mg X.base k x sp dvs) (tk : Takes X (fun cls d _ H => E cls d H)) (hr : Room j X.A) (hk : k ≤ j) (hg : Gl X x) (ha : PA X (e :: es) t)
    (hdb : (x == ("__debug__" : Str)) = false := by decide) (he : starEach (e :: es) X.env = (false, eval e X.env) :: starEach es X.env := by rfl) (hpl : (backTo pos (starEach es X.env)).any (·.1) = false := by rfl) : PE X (.Call (.Name x p) (e :: es) [] pos) (tCall sp dvs E t) := by
  obtain ⟨f, fd, ps, ds, F, hm, kp, b, d⟩ := c.ex
  exact pe_call F (hr.mono hk) hg hm kp b d (passes_call tk fun _ _ _ _ h => h) ha hdb he hpl
theorem pe_mtR {pl : Sem Bool} (c : MetX X.prog X.w X.K X.mg X.base k C m sp dvs) (tk : Takes X (fun cls d _ H => E cls d H)) (hr : Room j X.A) (hk : k ≤ j) (he : PE X o ta) (ha : PA X (e :: es) t)
    (hst : starEach (e :: es) X.env = (false, eval e X.env) :: starEach es X.env := by rfl) (hpl : (backTo pos (starEach es X.env)).any (·.1) = false := by rfl)
    (ht : eval (.Call (.Attribute o m apos) (e :: es) [] pos) X.env = (do let ov ← eval o X.env; standAt apos.atName; let (f, first) ← holding [ov] (getMethod ov m pl); callWith pos f first (backTo pos (starEach (e :: es) X.env)) (backToKw pos (keywordEach [] X.env))) := by rfl) : PE X (.Call (.Attribute o m apos) (e :: es) [] pos) (tMeth C m sp dvs E ta t) := by
  obtain ⟨f, fd, ps, ds, hc, hm, F, b, d⟩ := c.ex
  exact pe_meth (pl := pl) he hc hm F (hr.mono hk) b d (passes_call tk fun _ _ _ _ h => h) ha hst hpl ht
end
section
variable {P : Program} {w : World} {K : PySem.W.Frag} {mg : Str → Option Value} {base : Heap} {x m qual C : Str} {st : Stmt} {N ps : List Str} {k : Nat} {sp : Sp}
theorem cal_ofX (F : DefOk K mg x st) (S : FnScope N ps (defScope st)) (hb : ∀ f fd, FunD K x x (defArgs st) (defBody st) (defScope st) [] [] f fd → Binds K fd ps []) (len : ∀ vs H Q E, sp vs H Q E → vs.length = ps.length)
    (body : ∀ (f : Addr) (cdv : Value) (A : Around) (outer : List PySem.Env) (s : Shared) (H : Hp) (vs : List V) (Q : VK) (E : XK), Room k (A.deeper (envOfC x (defScope st) s.heap.objs.size f cdv)) → sp vs H Q E →
      ∃ t, PSs (cxOf (L2.CX P w) P w K mg base N x (defScope st) f cdv A outer s H E) (defBody st) t ∧ t { nx := fun _ H' => Q .non H', rt := Q } (start N vs) H) : CalX P w K mg base (k + 1) x sp [] := by
  obtain ⟨f, fd, F, hm⟩ := F.ex
  exact ⟨f, fd, ps, [], F.ok S len fun cdv A outer s H vs Q E hr h => body f cdv A outer s H vs Q E hr h, hm, F.kp, hb f fd F, .nil⟩
theorem met_ofX (F : WO.MetOk K C m qual st) (cl : Cls K (He.ga K C)) (S : FnScope N ps (defScope st)) (hb : ∀ f fd, FunD K m qual (defArgs st) (defBody st) (defScope st) [] [] f fd → Binds K fd ps []) (len : ∀ vs H Q E, sp vs H Q E → vs.length = ps.length)
    (body : ∀ (f : Addr) (cdv : Value) (A : Around) (outer : List PySem.Env) (s : Shared) (H : Hp) (vs : List V) (Q : VK) (E : XK), Room k (A.deeper (envOfC qual (defScope st) s.heap.objs.size f cdv)) → sp vs H Q E →
      ∃ t, PSs (cxOf (L2.CX P w) P w K mg base N qual (defScope st) f cdv A outer s H E) (defBody st) t ∧ t { nx := fun _ H' => Q .non H', rt := Q } (start N vs) H) : MetX P w K mg base (k + 1) (He.ga K C) m sp [] := by
  obtain ⟨f, fd, F, hm⟩ := F.ex
  exact ⟨f, fd, ps, [], cl, hm, F.ok S len fun cdv A outer s H vs Q E hr h => body f cdv A outer s H vs Q E hr h, hb f fd F, .nil⟩
end
/-! ### isinstance of what was caught -/
def rIsX (K : PySem.W.Frag) (a : Addr) (cls : Value) (d : Option Addr) : List V → Hp → VK → Prop := fun xs H Q => ∃ (D : Addr) (c : V) (cv : Value) (b : Bool), cls = .ref D ∧ d = none ∧ ExcC K D ∧ xs = [.ref a, c] ∧ (∀ u, RelV c u → u = cv) ∧ PySem.W.kitOne K (.ref D) cv = some b ∧ Q (.bl b) H
theorem call_isX {X : Cx} {a : Addr} {cls : Value} {d : Option Addr} {oe : Obj} {pn : List (Addr × Obj)} (hz : Zc cls d oe) (hf : ∃ vs, oe.data = .fields vs) : CallR (X.suite a ((a, oe) :: pn)) (.builtin "isinstance") (rIsX X.K a cls d) := by
  intro pins s σ H xs us Q I r h
  obtain ⟨D, c, cv, b, rfl, rfl, C, rfl, h1, h2, q⟩ := h
  exact call_isE C hz hf pins s σ H _ us Q I r ⟨c, cv, b, rfl, h1, h2, q⟩
section
variable {K : PySem.W.Frag} {H : Hp} {Q : VK}
theorem b_isX {mg : Str → Option Value} {x y : Str} {a : Addr} {b : Bool} (E : ExK K mg x) (u : Ups K (.ref (He.ga K x)) (.ref (He.ga K y)) b) (h : Q (.bl b) H) : rIsX K a (.ref (He.ga K x)) none [.ref a, .ref (He.ga K y)] H Q := ⟨_, _, _, b, rfl, rfl, E.eP, rfl, fun _ r => by cases r; rfl, u.i, h⟩
theorem b_isXT {mg : Str → Option Value} {x : Str} {T : String} {a : Addr} {b : Bool} (E : ExK K mg x) (u : Ups K (.ref (He.ga K x)) (.type T) b) (h : Q (.bl b) H) : rIsX K a (.ref (He.ga K x)) none [.ref a, .ty T] H Q := ⟨_, _, _, b, rfl, rfl, E.eP, rfl, fun _ r => by cases r; rfl, u.i, h⟩
end
end WF
/-! WBL: an own exception whose __init__ says super().__init__(text) and then keeps its row. -/
namespace WBL
open PySem PySem.Spec PyProof.Rows L2 Wy
/-- the frame of a method that says super() -/
abbrev supEnv (qual : Str) (scope : Scope) (L f cda cc : Addr) : PySem.Env := PySem.W.envX qual scope L f (.ref cda) [("__class__", cc)]
def supCx (P : Program) (w : World) (K : PySem.W.Frag) (mg : Str → Option Value) (base : Heap) (N : List Str) (qual : Str) (scope : Scope) (f cda cc : Addr) (A : Around) (outer : List PySem.Env) (s : Shared) (H : Hp) (E : XK) : Cx :=
  { prog := P, w := w, K := K, mg := mg, base := base, A := A.deeper (supEnv qual scope s.heap.objs.size f cda cc), N := N, s_0 := s, H_0 := H, env := supEnv qual scope s.heap.objs.size f cda cc, outer := outer,
    stack := supEnv qual scope s.heap.objs.size f cda cc :: outer, ex := [], fn := fun _ => false, calm := true, pn := [],
    xe := fun e s' => wpAny (model P w) (A.deeper (supEnv qual scope s.heap.objs.size f cda cc)) (leaving (supEnv qual scope s.heap.objs.size f cda cc) e) (fun _ s2 => CX0 outer H s E e s2) (fun e2 s2 => CX0 outer H s E e2 s2) s' }
/-- how the scope of such an __init__ stands -/
structure SupS (scope : Scope) : Prop where
  kind : scope.kind = .function
  fr : ∀ y ∈ scope.names, y.2 = .free → y.1 = "__class__"
  nc : ∀ y ∈ scope.names, y.2 ≠ .cell
  l0 : scope.names.lookup ("self" : Str) = some .local
  l1 : scope.names.lookup ("row" : Str) = some .local
  lc : scope.names.lookup ("__class__" : Str) = some .free
  ls : scope.names.lookup ("super" : Str) = some .globalImplicit
  co : scope.isCoroutine = false
  gen : scope.isGenerator = false
theorem inv_sup {P : Program} {w : World} {K : PySem.W.Frag} {mg : Str → Option Value} {base : Heap} {qual : Str} {scope : Scope} {f cda cc : Addr} {A : Around} {outer : List PySem.Env} {s : Shared} {H : Hp} {E : XK} {h1 : Heap} {tk : Nat} {a : Addr} {i : Int} {t : Tok} {ocell : Obj} {vc : Option Value}
    (S : SupS scope) (hd : A.handled = none) (e0 : Env0 P w K mg base A outer s H) (lc : K.lookup cc = some ocell) (dc : ocell.data = .cell vc)
    (hns : h1.Ns s.heap.objs.size fun y => ((["self", "row"] : List Str).zip [.ref a, .int i t]).reverse.lookup y) (kp : ∀ b o, s.heap.get? b = some o → h1.get? b = some o) :
    Inv (supCx P w K mg base ["self", "row"] qual scope f cda cc A outer s H E) [] [some (.ref a), some (.int i)] H { s with heap := h1, toks := tk } := by
  have one : ∀ {y : Str} {c : Addr}, ([("__class__", cc)] : List (Str × Addr)).lookup y = some c → y = "__class__" ∧ c = cc := fun {y c} e => by
    have m := PySem.mem_of_lookup e
    rw [List.mem_singleton] at m
    cases m
    exact ⟨rfl, rfl⟩
  have cb := e0.bs cc _ (e0.mod.kin _ _ lc)
  have nx : ∀ b : Addr, b ∉ (supCx P w K mg base ["self", "row"] qual scope f cda cc A outer s H E).ex := fun b => List.not_mem_nil
  have ok : (supCx P w K mg base ["self", "row"] qual scope f cda cc A outer s H E).Ok :=
    { mod := e0.mod, kind := S.kind, glob := rfl, blt := rfl, above := Nat.le_refl _, inj := fun x y c e1 e2 => (one e1).1.trans (one e2).1.symm,
      has := fun y hy => by
        have hy : scope.names.lookup y = some .cell ∨ scope.names.lookup y = some .free := hy
        rcases hy with hy | hy
        · exact absurd rfl (S.nc _ (PySem.mem_of_lookup hy))
        · have e := S.fr _ (PySem.mem_of_lookup hy) rfl
          have e : y = "__class__" := e
          subst e
          exact ⟨cc, rfl⟩
      cab := fun y c z _ => by cases (show false = true from z)
      hd := fun _ => hd, frames := Around.frames_deeper e0.frames, stk := .inr ⟨rfl, rfl⟩, exf := fun b z => absurd z (nx b), bs := e0.bs, bsz := e0.bsz, noex := fun b _ _ => nx b, exfs := fun b z => absurd z (nx b), funs := e0.funs, frf := e0.frf }
  refine { ok := ok, os := rfl, bare := e0.bare, base := Un.kept kp, loc := ⟨_, hns, fun j x v e1 e2 e3 => ?_⟩, cell := fun x c e => ?_, free := e0.hok.fresh (Nat.le_refl _), freeC := fun x c e => ?_, pin := fun q hq => absurd (show q ∈ ([] : List (Addr × Obj)) ++ [] from hq) (by simp), hok := e0.hok.kept kp, len := rfl }
  · match j, e1, e2 with
    | 0, e1, e2 =>
      cases e1
      cases e2
      exact ⟨_, rfl, .inl ⟨S.l0, rfl⟩⟩
    | 1, e1, e2 =>
      cases e1
      cases e2
      exact ⟨_, ⟨t, rfl⟩, .inl ⟨S.l1, rfl⟩⟩
    | _ + 2, e1, _ => cases e1
  · obtain ⟨_, rfl⟩ := one e
    exact ⟨vc, ocell, kp _ _ cb.1, dc⟩
  · obtain ⟨_, rfl⟩ := one e
    exact cb.2
abbrev jsE (p2 a1 p3 jp : Pos) : Expr := .JoinedStr [.Constant (.str "row ") 0 p2, .FormattedValue (.Name "row" a1) (-1) none p3] jp
abbrev supE (p0 p1 : Pos) : Expr := .Call (.Name "super" p0) [] [] p1
/-- what the text alone tells -/
structure SupT (st : Stmt) (qual : Str) (p0 p1 ap cp ep a1 a2 a3 a4 a5 p2 p3 jp : Pos) : Prop where
  bs : defBody st = [.Expr (.Call (.Attribute (supE p0 p1) "__init__" ap) [jsE p2 a1 p3 jp] [] cp) ep, .Assign [.Attribute (.Name "self" a2) "row" a3] (.Name "row" a4) a5]
  hi : ∀ L f a b, interactive (supEnv qual (defScope st) L f a b) = false
  he : ∀ L f a b, ∃ pl, eval (.Call (.Attribute (supE p0 p1) "__init__" ap) [jsE p2 a1 p3 jp] [] cp) (supEnv qual (defScope st) L f a b) = (do
      let ov ← attributeBase (supE p0 p1) "__init__" (supEnv qual (defScope st) L f a b) (eval (supE p0 p1) (supEnv qual (defScope st) L f a b))
      standAt ap.atName
      let (g, first) ← holding [ov] (getMethod ov "__init__" pl)
      callWith cp g first (backTo cp (starEach [jsE p2 a1 p3 jp] (supEnv qual (defScope st) L f a b))) [])
/-- what is known of such an __init__, at fI, of the class at D -/
structure SupD (P : Program) (K : PySem.W.Frag) (mg : Str → Option Value) (st : Stmt) (qual : Str) (D fI : Addr) (fd : FuncData) (cda cc : Addr) : Prop where
  lk : ∃ (oc : Value) (od : Option Addr) (osl : Array (Option Value)) (dV kV doc pm ct : Value) (an : Option Addr), K.lookup fI = some ⟨oc, od, .func fd, osl⟩ ∧ fd = PySem.W.fnX "__init__" qual (defArgs st) (defBody st) (defScope st) [("__class__", cc)] dV kV doc pm an (.ref cda) ct
  cd : PySem.W.codeIn K (.ref cda) qual = true
  code : ∃ (ccl : Value) (cdd : Option Addr) (cvs : Array Value) (ccs : Array (Option Value)) (file : Str) (tf : Tok), K.lookup cda = some ⟨ccl, cdd, .fields cvs, ccs⟩ ∧ cvs[2]? = some (.str file tf) ∧ ((P.main.file : Str) == file) = true
  cell : ∃ (cl : Value) (cld : Option Addr) (csl : Array (Option Value)), K.lookup cc = some ⟨cl, cld, .cell (some (.ref D)), csl⟩
  cls : ∃ cd, PySem.W.clsIn K D = some cd
  sup : mg "super" = none
  opq : PySem.W.nsIn K cStatics "thirdparty.any" = some none
  top : (P.main.scope.names.lookup ("super" : Str)).isSome = false
  S : SupS (defScope st)
  hp : ∃ pp : Pos, ((defArgs st).posonlyargs ++ (defArgs st).args).head? = some { arg := "self", annotation := none, pos := pp }
  bs : ∃ (p0 p1 ap cp ep a1 a2 a3 a4 a5 p2 p3 jp : Pos), SupT st qual p0 p1 ap cp ep a1 a2 a3 a4 a5 p2 p3 jp
/-- a class that has that __init__ from D -/
structure SupC (K : PySem.W.Frag) (D C : Addr) : Prop where
  o : OexC K C
  row : PySem.W.findIn K (.ref C) "row" = some none
  sub : PySem.W.mroIn K C (.ref D) = some true
  al : PySem.W.ks_superIn K C D "__init__" = some (some (.builtin "ValueError.__init__"))
  ve : PySem.W.subIn K (.ref C) (.type "ValueError") = some true
def spBad (K : PySem.W.Frag) (D : Addr) : Sp := fun vs H Q _ => ∃ (a C : Addr) (i : Int), vs = [.ref a, .int i] ∧ SupC K D C ∧ i.natAbs < 10 ^ 10 ∧ H a = some (exo a C none) ∧ ∀ dx, H dx = none → dx ≠ a → Q .non (upd (upd H dx (exd dx [("row", .int i)])) a (exo a C (some dx)))
section
variable {X : Cx} {pins : List (Addr × Obj)} {σ : L2.St} {H : Hp}
/-- a new object, kept in mind -/
theorem pinned {h : Heap} {g : Array GenState} {d : Drawn} {t t' : Nat} {os : OsState} {o : Obj} (I : Inv X pins σ H ⟨h, g, d, t, os⟩) (nf : o.isFreed = false) (nc : ∀ v, o.data ≠ .cell v) : Inv X ((h.objs.size, o) :: pins) σ H ⟨h.push o, g, d, t', os⟩ := by
  have J : Inv X pins σ H ⟨h.push o, g, d, t', os⟩ := I.kept (t' := t') fun b u e => Heap.get?_push_of_some _ e
  refine { J with pin := fun p hp => ?_ }
  rcases List.mem_append.mp hp with hp | hp
  · exact J.pin p (List.mem_append_left _ hp)
  · rcases List.mem_cons.mp hp with e | hp
    · subst e
      exact ⟨Heap.get?_push_size _ nf, I.hok.fresh (Nat.le_refl _), Nat.ne_of_gt I.lt, I.nofs (Nat.le_refl _), nc⟩
    · exact J.pin p (List.mem_append_right _ hp)
theorem unpin {s : Shared} {p : Addr × Obj} (I : Inv X (p :: pins) σ H s) : Inv X pins σ H s := { I with pin := fun q hq => I.pin q ((List.mem_append.mp hq).elim (fun m => List.mem_append_left _ m) fun m => List.mem_append_right _ (List.mem_cons_of_mem _ m)) }
/-- what super().__init__ gives, called -/
theorem call_mw {s : Shared} {a C u : Addr} {us : List Value} {Q : Value → Shared → Prop} {E : Value → Shared → Prop} {A : Around} (T : OexC X.K C) (I : Inv X pins σ H s) (e : H a = some (exo a C none)) (hu : s.heap.get? u = some (PySem.W.kxs_mw "ValueError.__init__" a)) (hl : us.length ≤ sizeLine)
    (h : ∀ s', Inv X pins σ H s' → Q .none s') : wpAny (model X.prog X.w) A (call (.ref u) us) Q E s := by
  obtain ⟨nm, qn, Nn, bs, bm, sn, sub, ab, col, dd, k0, k1, k2, k3, k5, hC, hbm⟩ := T.cls
  obtain ⟨t1, ho⟩ := exo_at I.hok e
  obtain ⟨hp, g, d, t, os⟩ := s
  refine wpAny_call (codeAny_of_tree (show wpAny _ A.in1 (callAny (.ref u) ⟨us, []⟩) _ _ _ from ?_))
  simp only [callAny]
  refine wpAny_bind (wpAny_load hu ?_)
  have b1 : (Value.type "method-wrapper" == Value.type "method" || Value.type "method-wrapper" == Value.type "builtin_function_or_method" || Value.type "method-wrapper" == Value.type "method-wrapper") = true := by decide
  simp only [PySem.W.kxs_mw, b1, if_true]
  refine PySem.W.KFB.if_so (by decide) (wpAny_bind (PySem.W.check_bound_init PySem.F.excBase_ValueError.toExcCallFacts (I.kIn _ _ hC) ho rfl (wpAny_bind (wpAny_pure (wpAny_pure ?_)))))
  refine ⟨plainId_quiet PySem.F.excBase_ValueError.init.plain _, codeAny_builtin PySem.F.excBase_ValueError.initEntry ?_⟩
  refine PySem.W.exc_init_tree (cls := .ref C) (t0 := t1) (dv := none) (c2 := .none) (c3 := .none) (b4 := .bool false) ho hl fun h2 kp hx _ => ?_
  have J := I.write (t' := t) (x := a) (e := a) (o := exo a C none) (by rw [e]; exact True.intro) (.inl rfl) kp ⟨_, hx⟩ (exo_ok hx)
  have same : upd H a (exo a C none) = H := funext fun b => if z : b = a then by rw [z, upd_same, e] else upd_ne z
  rw [same] at J
  exact h _ J
end
theorem sup_ok {P : Program} {w : World} {K : PySem.W.Frag} {mg : Str → Option Value} {base : Heap} {st : Stmt} {qual : Str} {D fI : Addr} {fd : FuncData} {cda cc : Addr} (F : SupD P K mg st qual D fI fd cda cc) : FnOk P w K mg base CX0 2 fI fd ["self", "row"] (spBad K D) := by
  refine ⟨fun vs H Q E h => ?_, fun A outer s H args us vs Q E hr e0 hb r hsp => ?_⟩
  · obtain ⟨_, _, _, rfl, _⟩ := h
    rfl
  obtain ⟨a, C, i, rfl, SC, hi, ea, q⟩ := hsp
  obtain ⟨oc, od, osl, dV, kV, doc, pm, ct, an, lk, rfl⟩ := F.lk
  obtain ⟨p0, p1, ap, cp, ep, a1, a2, a3, a4, a5, p2, p3, jp, TX⟩ := F.bs
  obtain ⟨cl, cld, csl, lcell⟩ := F.cell
  have S := F.S
  cases r with
  | cons r0 r' => cases r' with
    | cons r1 r' =>
      cases r'
      rename_i u0 u1
      cases r0
      obtain ⟨ti, rfl⟩ := r1
      have KX : K.In s.heap := e0.mod.kin.keeps fun b o e => (e0.bs b o e).1
      have lim : s.heap.NoLimit := e0.mod.nolimit.keeps fun b o e => (e0.bs b o e).1
      refine ks_codeAny_call_defAt (binds := (["self", "row"] : List Str).zip [.ref a, .int i ti]) hr.depth (KX _ _ lk) rfl lim (PySem.W.codeRec_of KX F.cd) rfl hb S.nc (fun y hy => ?_) (fun h1 hns hk => ?_) S.co S.gen S.kind
      · have hy : y = (("self" : Str), Value.ref a) ∨ y = (("row" : Str), Value.int i ti) := by simpa using hy
        rcases hy with rfl | rfl
        · exact S.l0
        · exact S.l1
      have I := inv_sup (P := P) (w := w) (mg := mg) (qual := qual) (f := fI) (cda := cda) (A := A) (outer := outer) (E := E) (tk := s.toks + 2) S hr.hd e0 lcell rfl hns hk
      have K1 : K.In h1 := KX.keeps hk
      obtain ⟨cd, hD⟩ := F.cls
      obtain ⟨oD, hD1, hD2⟩ : ∃ oD, h1.get? D = some oD ∧ oD.data = .cls cd := by
        unfold PySem.W.clsIn at hD
        split at hD
        · rename_i ho
          cases hD
          exact ⟨_, K1 _ _ ho, rfl⟩
        · cases hD
      obtain ⟨ccl, cdd, cvs, ccs, file, tf, lcode, hv2, hfile⟩ := F.code
      obtain ⟨t1, ho⟩ := exo_at I.hok ea
      obtain ⟨nm, qn, Nn, bs, bm, sn, sub, ab, col, dd, k0, k1, k2, k3, k5, lC, hbm⟩ := SC.o.cls
      obtain ⟨cdC, hC⟩ : ∃ c, PySem.W.clsIn K C = some c := by
        unfold PySem.W.clsIn
        rw [lC]
        exact ⟨_, rfl⟩
      have naC : a ≠ C := fun z => by
        rw [z, K1 _ _ lC] at ho
        cases ho
      show _root_.PySem.wpAt (model P w) (A.deeper (supEnv qual (defScope st) s.heap.objs.size fI cda cc)) (.func (defBody st) (supEnv qual (defScope st) s.heap.objs.size fI cda cc)) (execs (defBody st) (supEnv qual (defScope st) s.heap.objs.size fI cda cc)) _ _ _
      rw [TX.bs]
      obtain ⟨pl, he⟩ := TX.he s.heap.objs.size fI cda cc
      refine ks_wpAt_execs_cons (ks_wpAt_Expr_any (ks_wpAt_MethodCall ?_ he) (TX.hi _ _ _ _))
      obtain ⟨pp, hpp⟩ := F.hp
      refine ks_wpAt_super_base (attr := "__init__") S.ls S.lc (by decide) rfl (K1 _ _ lk) rfl hpp rfl (K1 _ _ lcode) rfl hv2 hfile F.top ?_
      obtain ⟨mb, hb1, hb2⟩ := I.mod.blt
      refine PySem.W.ks_loadName_global S.kind S.ls (Calls.loadGlobal_builtin (I.mod.glob.keeps I.bk) F.sup (hb1.keeps I.bk) ((hb2 "super" (by decide)).trans (show bootBuiltins "super" = some (.type "super") by decide +kernel)) ⟨rfl, ?_⟩)
      refine wpAny_loadName_free S.kind S.lc rfl ⟨_, K1 _ _ lcell, rfl⟩ ?_
      refine wpAny_loadName_local S.kind S.l0 hns rfl ?_
      refine ks_wpAny_isType_cls hD1 hD2 ⟨rfl, ?_⟩
      refine ks_wpAny_call_super hD1 hD2 ho rfl (fun c e => by cases e) (PySem.W.looks_mroIn K1 SC.sub) (fun h2 e2 c2 => ?_)
      have I2 : Inv (supCx P w K mg base ["self", "row"] qual (defScope st) fI cda cc A outer s H E) [] [some (.ref a), some (.int i)] H { s with heap := h2, toks := s.toks + 2 } := I.kept (t' := s.toks + 2) c2
      obtain ⟨t2, ho2⟩ := exo_at I2.hok ea
      have K2 : K.In h2 := I2.kIn
      have al := SC.al
      unfold PySem.W.ks_superIn at al
      rw [hC] at al
      have ii : PySem.W.InstAt h2 a ({ cls := .ref C, dict := none, data := .fields #[.ref t2, .none, .none, .none, .bool false, .none] } : Obj) C none := ⟨ho2, rfl, rfl, trivial⟩
      refine PySem.W.kxs_getMethod PySem.W.kxs_ValueError e2 (PySem.W.looks_opaque K2 F.opq) (l₀ := cdC.mro) (fun A Q E s k q => wpAny_bind ((PySem.W.looks_clsIn K2 hC) A _ E s k (wpAny_pure q))) rfl K2 al (ii.type.andThen (PySem.W.looks_subIn K2 SC.ve)) naC (by decide) ?_
      have I3 := pinned (o := PySem.W.kxs_mw "ValueError.__init__" a) (t' := s.toks + 2 + 1) I2 rfl (fun v z => by cases z)
      have h1v : PE (supCx P w K mg base ["self", "row"] qual (defScope st) fI cda cc A outer s H E) (.Name "row" a1) (tVar 1) := pe_var rfl (show Vis (defScope st) "row" from .inl S.l1) (by decide) (by decide)
      have h0v : PE (supCx P w K mg base ["self", "row"] qual (defScope st) fI cda cc A outer s H E) (.Name "self" a2) (tVar 0) := pe_var rfl (show Vis (defScope st) "self" from .inl S.l0) (by decide) (by decide)
      have ha : PA (supCx P w K mg base ["self", "row"] qual (defScope st) fI cda cc A outer s H E) [jsE p2 a1 p3 jp] _ := pa_cons (pe_joined2 (PJ.cons pe_str (PJ.cons (pe_fmt h1v) PJ.nil))) pa_nil
      have es : starEach [jsE p2 a1 p3 jp] (supEnv qual (defScope st) s.heap.objs.size fI cda cc) = (false, eval (jsE p2 a1 p3 jp) (supEnv qual (defScope st) s.heap.objs.size fI cda cc)) :: starEach [] (supEnv qual (defScope st) s.heap.objs.size fI cda cc) := rfl
      have run := ha.run cp _ _ _ _ (fun vs H1 => (∃ z : Str, vs = [.str z]) ∧ H1 = H) I3 ?_
      · have run2 : wpAny (model P w) (A.deeper (supEnv qual (defScope st) s.heap.objs.size fI cda cc)) (spliced (backTo cp (starEach [jsE p2 a1 p3 jp] (supEnv qual (defScope st) s.heap.objs.size fI cda cc)))) _ _ _ := run
        rw [es] at run2
        show wpAny _ _ (callWith cp (.ref h2.objs.size) [] (backTo cp (starEach [jsE p2 a1 p3 jp] (supEnv qual (defScope st) s.heap.objs.size fI cda cc))) []) _ _ _
        rw [es]
        refine PySem.W.kxs_callWith (i := "ValueError.__init__") (x := a) rfl (Calls.evalArgs_plain (wpAny_mono run2 (fun us s4 z => ?_) fun _ _ z => z))
        obtain ⟨vs, H1, I4, r4, ⟨tx, rfl⟩, rfl⟩ := z
        have hu := (I4.pin (h2.objs.size, PySem.W.kxs_mw "ValueError.__init__" a) (List.mem_append_right _ List.mem_cons_self)).1
        refine ⟨hu, call_mw SC.o I4 ea hu (by have := r4.length; have e1 : us.length = 1 := this.symm; show ([] ++ us).length ≤ sizeLine; rw [List.nil_append, e1, sizeLine_eq]; decide) fun s5 J => ?_⟩
        have t2 : PSs (supCx P w K mg base ["self", "row"] qual (defScope st) fI cda cc A outer s H1 E) [.Assign [.Attribute (.Name "self" a2) "row" a3] (.Name "row" a4) a5] _ := pss_one (ps_ost h0v (pe_var (i := 1) rfl (show Vis (defScope st) "row" from .inl S.l1) (by decide) (by decide)))
        refine wpAt_of_wpAny (wpAny_mono (t2.run [] s5 _ H1 { nx := fun _ H' => Q .non H', rt := Q } (unpin J) ?_) (fun fl s6 hs => ?_) fun _ _ z => z)
        · exact ⟨_, rfl, _, rfl, a, C, rfl, SC.o, SC.row, .inl ⟨ea, q⟩⟩
        · cases fl with
          | ret u =>
            obtain ⟨v, σ', H', G, rv, q2⟩ := hs
            exact ⟨v, H', G.os, G.bare, G.base, G.hok, rv, q2⟩
          | next =>
            obtain ⟨σ', H', G, q2⟩ := hs
            exact ⟨.non, H', G.os, G.bare, G.base, G.hok, rfl, q2⟩
          | brk =>
            obtain ⟨_, _, _, z⟩ := hs
            exact z.elim
          | cont =>
            obtain ⟨_, _, _, z⟩ := hs
            exact z.elim
      · show tCons (tJoined [tC (.str "row "), tFmt (tVar 1)]) tNil _ _ _
        have hl : (W4.intS i).length ≤ 11 := W4.intS_len hi
        have z1 : ((Str.empty ++ ("row " : Str)) ++ W4.intS i).length ≤ sizeLine := by
          rw [app_len, sizeLine_eq]
          have : (Str.empty ++ ("row " : Str)).length = 4 := by decide +kernel
          omega
        refine e_joined (j_cons ?_)
        refine k_j (by rw [sizeLine_eq]; decide +kernel) (j_cons (e_fmt ?_))
        exact ⟨_, rfl, k_fI (by omega) (k_j z1 (j_nil ⟨⟨_, rfl⟩, rfl⟩))⟩
end WBL
/-! WHS: a head with an __init__ that says super(). -/
namespace WHS
open PySem PySem.Spec PyProof.Rows L2 He
abbrev FnS : Type := Option (FnW × List Str)
/-- a def and the names that it keeps from outside -/
def fnS (K : PySem.W.Frag) (a : Addr) : FnS := match K.lookup a with
  | some ⟨_, _, .func d, _⟩ => some (some (d.name, d.qualname, d.params, d.body, d.scope, d.globals, [], d.builtins), d.closure.map (·.1))
  | _ => none
structure SpS where
  cls : Str
  qual : Str
  params : Arguments
  body : List Stmt
  scope : Scope
def SpS.fI (K : PySem.W.Frag) (d : SpS) : Addr := ma K (ga K d.cls) "__init__"
def SpS.val (d : SpS) : FnS := some (some ("__init__", d.qual, d.params, .stmts d.body, d.scope, mainGlobals, [], builtinsNs), ["__class__"])
def codeB (K : PySem.W.Frag) (file : Str) (v : Value) : Bool := match v with
  | .ref a => (match K.lookup a with
    | some ⟨_, _, .fields vs, _⟩ => (match (vs[2]? : Option Value) with
      | some (Value.str f _) => file == f
      | _ => false)
    | _ => false)
  | _ => false
def cellB (K : PySem.W.Frag) (D : Addr) (l : List (Str × Addr)) : Bool := match l with
  | [(_, c)] => (match K.lookup c with
    | some ⟨_, _, .cell (some (.ref d)), _⟩ => d == D
    | _ => false)
  | _ => false
def SpS.ok (K : PySem.W.Frag) (file : Str) (d : SpS) : Bool := (match K.lookup (d.fI K) with
  | some ⟨_, _, .func e, _⟩ => PySem.W.codeIn K e.code d.qual && (dflB K e.defaults [] && (codeB K file e.code && cellB K (ga K d.cls) e.closure))
  | _ => false) && ((PySem.W.clsIn K (ga K d.cls)).isSome && decide (PySem.W.nsIn K cStatics "thirdparty.any" = some none))
theorem SpS.lk {K : PySem.W.Frag} {file : Str} {d : SpS} (e : fnS K (d.fI K) = d.val) (c : d.ok K file = true) : ∃ (fd : FuncData) (cda cc : Addr) (oc : Value) (od : Option Addr) (osl : Array (Option Value)) (kV doc pm ct : Value) (an : Option Addr),
    K.lookup (d.fI K) = some ⟨oc, od, .func fd, osl⟩ ∧ fd = PySem.W.fnX "__init__" d.qual d.params d.body d.scope [("__class__", cc)] .none kV doc pm an (.ref cda) ct ∧ PySem.W.codeIn K (.ref cda) d.qual = true ∧
    (∃ (ccl : Value) (cdd : Option Addr) (cvs : Array Value) (ccs : Array (Option Value)) (f : Str) (tf : Tok), K.lookup cda = some ⟨ccl, cdd, .fields cvs, ccs⟩ ∧ cvs[2]? = some (.str f tf) ∧ (file == f) = true) ∧
    (∃ (cl : Value) (cld : Option Addr) (csl : Array (Option Value)), K.lookup cc = some ⟨cl, cld, .cell (some (.ref (ga K d.cls))), csl⟩) ∧ (∃ cd, PySem.W.clsIn K (ga K d.cls) = some cd) ∧ PySem.W.nsIn K cStatics "thirdparty.any" = some none := by
  obtain ⟨c1, c2⟩ := ba c
  obtain ⟨c3, c4⟩ := ba c2
  unfold fnS at e
  cases q : K.lookup (d.fI K) with
  | none =>
    rw [q] at c1
    cases c1
  | some ob =>
    obtain ⟨o1, o2, o3, o4⟩ := ob
    rw [q] at c1 e
    cases o3 with
    | func g =>
      obtain ⟨g1, g2, g3, g4, g5, g6, g7, g8, g9, g10, g11, g12, g13, g14, g15⟩ := g
      have e : (some (some (g1, g2, g3, g4, g5, g6, [], g15), g7.map (·.1)) : FnS) = some ((some ((("__init__" : Str), d.qual, d.params, FuncBody.stmts d.body, d.scope, mainGlobals, [], builtinsNs)) : FnW), (["__class__"] : List Str)) := e
      simp only [Option.some.injEq, Prod.mk.injEq] at e
      obtain ⟨⟨i1, i2, i3, i4, i5, i6, i7, i8⟩, i9⟩ := e
      subst i1 i2 i3 i4 i5 i6 i8
      obtain ⟨u1, u2⟩ := ba (show (PySem.W.codeIn K g13 d.qual && (dflB K g8 [] && (codeB K file g13 && cellB K (ga K d.cls) g7))) = true from c1)
      obtain ⟨u3, u4⟩ := ba u2
      obtain ⟨u5, u6⟩ := ba u4
      obtain ⟨cc, rfl⟩ : ∃ cc : Addr, g7 = [(("__class__" : Str), cc)] := by
        clear e
        match g7, i9 with
        | [(x, cc)], i9 =>
          have i9 : [x] = [("__class__" : Str)] := i9
          cases i9
          exact ⟨cc, rfl⟩
      have u7 := dflB_ok u3
      have e8 : g8 = .none := by
        rcases u7 with ⟨_, h⟩ | ⟨h, _⟩
        · exact h
        · exact absurd rfl h
      subst e8
      cases g13 with
      | ref cda =>
        refine ⟨_, cda, cc, o1, o2, o4, g9, g10, g11, g14, g12, rfl, rfl, u1, ?_, ?_, Option.isSome_iff_exists.mp c3, of_decide_eq_true c4⟩
        · cases q2 : K.lookup cda with
          | none =>
            rw [codeB, q2] at u5
            cases u5
          | some oc =>
            obtain ⟨b1, b2, b3, b4⟩ := oc
            rw [codeB, q2] at u5
            cases b3 with
            | fields vs =>
              cases q3 : (vs[2]? : Option Value) with
              | none =>
                have u5 : (match (vs[2]? : Option Value) with | some (Value.str f _) => file == f | _ => false) = true := u5
                rw [q3] at u5
                cases u5
              | some v =>
                have u5 : (match (vs[2]? : Option Value) with | some (Value.str f _) => file == f | _ => false) = true := u5
                rw [q3] at u5
                cases v with
                | str f tf => exact ⟨b1, b2, vs, b4, f, tf, rfl, q3, u5⟩
                | _ => cases u5
            | _ => cases u5
        · have u6 : (match K.lookup cc with | some ⟨_, _, .cell (some (.ref d2)), _⟩ => d2 == ga K d.cls | _ => false) = true := u6
          cases q2 : K.lookup cc with
          | none =>
            rw [q2] at u6
            cases u6
          | some oc =>
            obtain ⟨b1, b2, b3, b4⟩ := oc
            rw [q2] at u6
            cases b3 with
            | cell v =>
              cases v with
              | none => cases u6
              | some v =>
                cases v with
                | ref d2 =>
                  have e2 : d2 = ga K d.cls := eq_of_beq u6
                  subst e2
                  exact ⟨b1, b2, b4, rfl⟩
                | _ => cases u6
            | _ => cases u6
      | _ => cases u5
    | _ => cases c1
/-! ### the hook -/
/-- the written part, with the statics -/
def kS (g : Addr → Option Obj) (n : Nat) : PySem.W.Frag := frT g (cStatics :: asD g n)
abbrev AlS : Type := (AlT × Bool) × (List FnW × List FnS)
def exS (ex : PySem.W.Frag → Bool) (file : Str) (ss : List SpS) (K : PySem.W.Frag) : Bool := ex K && ss.all fun d => d.ok K file
def obsS (n : Nat) (fa : List Fa) (fn : List DefD) (ts : List Tab) (tf : List Defn) (ex : PySem.W.Frag → Bool) (ps : List WH.SpD) (file : Str) (ss : List SpS) (g : Addr → Option Obj) : AlS :=
  ((obsT fa fn ts (kS g n), WH.exP (exS ex file ss) ps (kS g n) && tabsB g tf (kS g n)), (ps.map (fun d => WH.fnA (kS g n) (d.at_ (kS g n))), ss.map fun d => fnS (kS g n) (d.fI (kS g n))))
def valS (fn : List DefD) (ts : List Tab) (ps : List WH.SpD) (ss : List SpS) (w : World) : AlS := ((valT fn ts w, true), (ps.map WH.SpD.val, ss.map SpS.val))
theorem says_of {fa : List Fa} {fn : List DefD} {ts : List Tab} {tf : List Defn} {ex : PySem.W.Frag → Bool} {w : World} {h : Heap} {as : List Addr} (e1 : obsT fa fn ts (frT h.get? as) = valT fn ts w) (e2 : (ex (frT h.get? as) && tabsB h.get? tf (frT h.get? as)) = true) : SaysX fa fn ts tf ex w h (frT h.get? as) := by
  obtain ⟨h1, h2⟩ := ba e2
  have one : ∀ p ∈ tf, PySem.W.codeHdIn (frT h.get? as) (cT (frT h.get? as) p).1 (cT (frT h.get? as) p).2 = true ∧ ∃ o, h.get? (cT (frT h.get? as) p).2 = some o ∧ emptyTab o = true := fun p hp => by
    obtain ⟨h3, h4⟩ := ba (List.all_eq_true.mp h2 p hp)
    cases q : h.get? (cT (frT h.get? as) p).2 with
    | some o =>
      rw [q] at h4
      exact ⟨h3, o, rfl, h4⟩
    | none =>
      rw [q] at h4
      cases h4
  refine { t := e1, more := h1, hd := fun p hp => (one p hp).1, out := fun p hp => ?_, empty := fun p hp => ?_ }
  · obtain ⟨_, o, q, z⟩ := one p hp
    exact frT_none q z
  · obtain ⟨_, o, q, z⟩ := one p hp
    rw [q, emptyTab_eq z]
structure SaysS (fa : List Fa) (fn : List DefD) (ts : List Tab) (tf : List Defn) (ex : PySem.W.Frag → Bool) (ps : List WH.SpD) (file : Str) (ss : List SpS) (w : World) (h : Heap) (K : PySem.W.Frag) : Prop where
  y : WH.SaysP fa fn ts tf (exS ex file ss) ps w h K
  s : ss.map (fun d => fnS K (d.fI K)) = ss.map SpS.val
section
variable {fa : List Fa} {fn : List DefD} {ts : List Tab} {tf : List Defn} {ex : PySem.W.Frag → Bool} {ps : List WH.SpD} {file : Str} {ss : List SpS} {w : World} {h : Heap} {K : PySem.W.Frag}
theorem SaysS.x (c : SaysS fa fn ts tf ex ps file ss w h K) : SaysX fa fn ts tf (WH.exP (exS ex file ss) ps) w h K := c.y.x
theorem SaysS.more (c : SaysS fa fn ts tf ex ps file ss w h K) : ex K = true := (ba c.y.more).1
theorem SaysS.ini (c : SaysS fa fn ts tf ex ps file ss w h K) (i : Nat) {d : SpS} (hd : ss[i]? = some d := by rfl) : fnS K (d.fI K) = d.val ∧ d.ok K file = true := by
  have c1 := List.all_eq_true.mp (ba c.y.more).2 d (List.mem_of_getElem? hd)
  have e : (ss.map fun d => fnS K (d.fI K))[i]? = (ss.map SpS.val)[i]? := by rw [c.s]
  rw [List.getElem?_map, List.getElem?_map, hd] at e
  exact ⟨Option.some.inj e, c1⟩
end
def hookS (n : Nat) (fa : List Fa) (fn : List DefD) (ts : List Tab) (tf : List Defn) (ex : PySem.W.Frag → Bool) (ps : List WH.SpD) (file : Str) (ss : List SpS) : PySem.W.Hook where
  α := AlS
  obs := fun s => obsS n fa fn ts tf ex ps file ss s.heap.get?
  val := valS fn ts ps ss
  says := fun w h => ∃ K : PySem.W.Frag, K.In h ∧ SaysS fa fn ts tf ex ps file ss w h K
  of := fun w s e => by
    have e1 := congrArg (fun z : AlS => z.1.1) e
    have e2 := congrArg (fun z : AlS => z.1.2) e
    have e3 := congrArg (fun z : AlS => z.2.1) e
    have e4 := congrArg (fun z : AlS => z.2.2) e
    exact ⟨_, frT_in, ⟨says_of e1 e2, e3⟩, e4⟩
  keeps := fun w h h2 ⟨K, hK, c⟩ k => ⟨K, PySem.W.Frag.In.keeps hK k, ⟨⟨c.y.x.t, c.y.x.more, c.y.x.hd, c.y.x.out, fun p hp => k _ _ (c.y.x.empty p hp)⟩, c.y.p⟩, c.s⟩
theorem obsS_eq {n : Nat} {fa : List Fa} {fn : List DefD} {ts : List Tab} {tf : List Defn} {ex : PySem.W.Frag → Bool} {ps : List WH.SpD} {file : Str} {ss : List SpS} {g : Addr → Option Obj} {s : Shared} (h : ∀ a, g a = s.heap.get? a) : obsS n fa fn ts tf ex ps file ss g = (hookS n fa fn ts tf ex ps file ss).obs s := by
  have e : g = s.heap.get? := funext h
  rw [e]
  rfl
/-! ### a class that has such an __init__ -/
def clB (K : PySem.W.Frag) (C : Addr) : Bool := match K.lookup C with
  | some ⟨.type t, _, .cls cd, sl⟩ => t == "type" && (match cd.mro, sl.toList with
    | .ref C2 :: bm, [_, _, _, _, some (.builtin n), _] => C2 == C && (n == "ValueError.__new__" && (!cd.hasDel && (cd.hasDict && PySem.HandSPX.refsVE bm)))
    | _, _ => false)
  | _ => false
theorem clB_ok {K : PySem.W.Frag} {C : Addr} (q : clB K C = true) : ∃ nm q N bs bm sn sub ab col dd k0 k1 k2 k3 k5, K.lookup C = some (excClassObj nm q C N bs bm true sn sub ab col dd k0 k1 k2 k3 k5 "ValueError.__new__") ∧ PySem.HandSPX.refsVE bm = true := by
  unfold clB at q
  split at q
  · rename_i t dd cd sl ho
    obtain ⟨q1, q2⟩ := ba q
    have q1 := eq_of_beq q1
    subst q1
    split at q2
    · rename_i C2 bm k0 k1 k2 k3 n k5 hm hs
      obtain ⟨r1, q2⟩ := ba q2
      obtain ⟨r2, q2⟩ := ba q2
      obtain ⟨r3, q2⟩ := ba q2
      obtain ⟨r4, r5⟩ := ba q2
      have r1 := eq_of_beq r1
      have r2 := eq_of_beq r2
      subst r1 r2
      obtain ⟨nm, bs, mro, ns, qn, hdc, sn, sub, ab, col, del⟩ := cd
      dsimp only at hm r3 r4
      subst hm r4
      have r3 : del = false := by simpa using r3
      subst r3
      obtain ⟨l⟩ := sl
      simp only at hs
      subst hs
      exact ⟨nm, qn, ns, bs, bm, sn, sub, ab, col, dd, k0, k1, k2, k3, k5, ho, r5⟩
    · cases q2
  · cases q
/-- what is known of it -/
structure BadK (K : PySem.W.Frag) (mg : Str → Option Value) (D C : Str) : Prop where
  gC : mg C = some (.ref (ga K C))
  s : WBL.SupC K (ga K D) (ga K C)
  iC : PySem.W.findIn K (.ref (ga K C)) "__init__" = some (some (.ref (ma K (ga K D) "__init__")))
  tI : PySem.W.typeIn K (.ref (ma K (ga K D) "__init__")) = some (.type "function")
  e : ExcC K (ga K C)
def b3 (K : PySem.W.Frag) (D C : Addr) : Bool := clB K C && (decide (PySem.W.findIn K (.ref C) "__setattr__" = some (some (.builtin "object.__setattr__"))) && (decide (PySem.W.subIn K (.ref C) (.type "BaseException") = some true) && (decide (PySem.W.typeIn K (.ref C) = some (.type "type")) && PySem.W.keepIn K (.ref C))))
def b4 (K : PySem.W.Frag) (D C : Addr) : Bool := decide (PySem.W.findIn K (.ref C) "row" = some none) && (decide (PySem.W.mroIn K C (.ref D) = some true) && (decide (PySem.W.ks_superIn K C D "__init__" = some (some (.builtin "ValueError.__init__"))) && decide (PySem.W.subIn K (.ref C) (.type "ValueError") = some true)))
def badB (K : PySem.W.Frag) (D C : Str) : Bool := b3 K (ga K D) (ga K C) && (b4 K (ga K D) (ga K C) && (decide (PySem.W.findIn K (.ref (ga K C)) "__init__" = some (some (.ref (ma K (ga K D) "__init__")))) && (decide (PySem.W.typeIn K (.ref (ma K (ga K D) "__init__")) = some (.type "function")) && WF.b2 K (ga K C))))
theorem badB_ok {K : PySem.W.Frag} {mg : Str → Option Value} {D C : Str} (g : mg C = some (.ref (ga K C))) (h : badB K D C = true) : BadK K mg D C := by
  obtain ⟨h1, h⟩ := ba h
  obtain ⟨h2, h⟩ := ba h
  obtain ⟨h3, h⟩ := ba h
  obtain ⟨h4, h5⟩ := ba h
  obtain ⟨a1, h1⟩ := ba h1
  obtain ⟨a2, h1⟩ := ba h1
  obtain ⟨a3, h1⟩ := ba h1
  obtain ⟨a4, a5⟩ := ba h1
  obtain ⟨c1, h2⟩ := ba h2
  obtain ⟨c2, h2⟩ := ba h2
  obtain ⟨c3, c4⟩ := ba h2
  obtain ⟨e1, h5⟩ := ba h5
  obtain ⟨e2, h5⟩ := ba h5
  obtain ⟨e3, h5⟩ := ba h5
  obtain ⟨e4, h5⟩ := ba h5
  obtain ⟨e5, h5⟩ := ba h5
  obtain ⟨e6, e7⟩ := ba h5
  refine ⟨g, ⟨⟨clB_ok a1, of_decide_eq_true a2, of_decide_eq_true a3, of_decide_eq_true a4, a5⟩, of_decide_eq_true c1, of_decide_eq_true c2, of_decide_eq_true c3, of_decide_eq_true c4⟩, of_decide_eq_true h3, of_decide_eq_true h4, ?_⟩
  exact ⟨of_decide_eq_true e1, of_decide_eq_true e2, of_decide_eq_true a3, e3, of_decide_eq_true e4, of_decide_eq_true e5, of_decide_eq_true e6, of_decide_eq_true e7⟩
end WHS
/-! WBX: raising an own exception that keeps its row; what a handler asks of it. -/
namespace WBX
open PySem PySem.Spec PyProof.Rows L2 Wy
/-- what is asked of the program's text -/
structure PF (P : Program) (file : Str) : Prop where
  file : ((P.main.file : Str) == file) = true
  top : (P.main.scope.names.lookup ("super" : Str)).isSome = false
/-- the __init__ keeps its promise -/
theorem bad_init {P : Program} {w : World} {K : PySem.W.Frag} {mg : Str → Option Value} {base : Heap} {file : Str} {d : WHS.SpS} {st : Stmt} (c : WHS.fnS K (d.fI K) = d.val ∧ d.ok K file = true) (pf : PF P file) (hd : d.params = defArgs st) (hb : d.body = defBody st) (hs : d.scope = defScope st) (S : WBL.SupS (defScope st))
    (hp : ∃ pp : Pos, ((defArgs st).posonlyargs ++ (defArgs st).args).head? = some { arg := "self", annotation := none, pos := pp }) (bs : ∃ (p0 p1 ap cp ep a1 a2 a3 a4 a5 p2 p3 jp : Pos), WBL.SupT st d.qual p0 p1 ap cp ep a1 a2 a3 a4 a5 p2 p3 jp) (sup : mg "super" = none)
    (bi : ∀ (cc : Addr) (kV doc pm : Value) (an : Option Addr) (cdv ct : Value) (us : List Value), us.length = (["self", "row"] : List Str).length → bindArgs (PySem.W.fnX "__init__" d.qual (defArgs st) (defBody st) (defScope st) [("__class__", cc)] .none kV doc pm an cdv ct) ⟨us, []⟩ = pure ((["self", "row"] : List Str).zip us)) :
    ∃ fd, FnOk P w K mg base CX0 2 (d.fI K) fd ["self", "row"] (WBL.spBad K (He.ga K d.cls)) ∧ Binds K fd ["self", "row"] [] := by
  obtain ⟨fd, cda, cc, oc, od, osl, kV, doc, pm, ct, an, lk, rfl, cd, code, cell, cls, opq⟩ := WHS.SpS.lk c.1 c.2
  rw [hd, hb, hs] at lk
  have D : WBL.SupD P K mg st d.qual (He.ga K d.cls) (d.fI K) (PySem.W.fnX "__init__" d.qual (defArgs st) (defBody st) (defScope st) [("__class__", cc)] .none kV doc pm an (.ref cda) ct) cda cc := {
    lk := ⟨oc, od, osl, .none, kV, doc, pm, ct, an, lk, rfl⟩
    cd := cd
    code := by
      obtain ⟨b1, b2, b3, b4, f, tf, h1, h2, h3⟩ := code
      exact ⟨b1, b2, b3, b4, f, tf, h1, h2, (eq_of_beq h3) ▸ pf.file⟩
    cell := cell
    cls := cls
    sup := sup
    opq := opq
    top := pf.top
    S := S
    hp := hp
    bs := bs }
  exact ⟨_, WBL.sup_ok D, .all (bi cc kV doc pm an _ ct)⟩
theorem pa_sub {X : Cx} {es : List Expr} {ta : TA} (ha : PA X es ta) : PA X es (fun σ H Q => ∃ Q0, ta σ H Q0 ∧ ∀ vs H1, Q0 vs H1 → Q vs H1) :=
  ⟨fun pos pins s σ H Q I ⟨Q0, h, k⟩ => wpAny_mono (ha.run pos pins s σ H Q0 I h) (fun us s1 ⟨vs, H1, I1, r, q⟩ => ⟨vs, H1, I1, r, k _ _ q⟩) fun _ _ z => z⟩
/-! ### raise C(row) -/
def tBad (K : PySem.W.Frag) (C : Str) (ta : TA) : L2.St → Hp → XK → Prop := fun σ H Q => ta σ H fun vs H1 => ∃ i : Int, vs = [.int i] ∧ i.natAbs < 10 ^ 10 ∧ ∀ d H2, H1 d = none → Same H1 H2 → H2 d = some (.xd [("row", .int i)]) → Q (.ref (He.ga K C)) (some d) H2
theorem pmk_bad {X : Cx} {D C : Str} {fd : FuncData} {k : Nat} {e : Expr} {ta : TA} {p pos : Pos} (B : WHS.BadK X.K X.mg D C) (F : FnOk X.prog X.w X.K X.mg X.base CX0 2 (He.ma X.K (He.ga X.K D) "__init__") fd ["self", "row"] (WBL.spBad X.K (He.ga X.K D))) (hb : Binds X.K fd ["self", "row"] []) (hr : Room k X.A) (hk : 3 ≤ k) (hg : Gl X C) (ha : PA X [e] ta)
    (hdb : (C == ("__debug__" : Str)) = false := by decide) (he : starEach (e :: []) X.env = (false, eval e X.env) :: starEach [] X.env := by rfl) (hpl : (backTo pos (starEach [] X.env)).any (·.1) = false := by rfl) : PMk X (.Call (.Name C p) [e] [] pos) (tBad X.K C ta) := by
  intro pins s σ H Q I h
  refine pmk_oex B.s.o B.iC B.tI F (hr.mono hk) hb .nil pass0 hg B.gC (pa_sub ha) hdb he hpl pins s σ H Q I ⟨_, h, fun vs H1 z => ?_⟩
  obtain ⟨i, rfl, hi, q⟩ := z
  refine ⟨by show 1 ≤ 1000; decide, fun a na => ⟨a, _, i, rfl, B.s, hi, upd_same, fun dx nd ne => ?_⟩⟩
  have nd1 : H1 dx = none := by rwa [upd_ne ne] at nd
  refine ⟨rfl, dx, _, upd_same, by rw [upd_ne ne, upd_same], nd1, q dx _ nd1 (fun b o hb => ?_) upd_same⟩
  have n1 : b ≠ dx := fun z => by rw [z, nd1] at hb; cases hb
  have n2 : b ≠ a := fun z => by rw [z, na] at hb; cases hb
  rw [upd_ne n1, del_ne n2, upd_ne n2, upd_ne n1, upd_ne n2]
  exact hb
/-! ### what a handler asks -/
def Own (H : Hp) (d : Option Addr) : Prop := d = none ∨ ∃ dd fs, d = some dd ∧ H dd = some (.xd fs)
def rIsY (K : PySem.W.Frag) (a : Addr) (cls : Value) (d : Option Addr) : List V → Hp → VK → Prop := fun xs H Q => ∃ D : Addr, cls = .ref D ∧ Own H d ∧ ExcC K D ∧
  ((∃ (c : V) (u : Value) (b : Bool), xs = [.ref a, c] ∧ ClsV c u ∧ PySem.W.kitOne K (.ref D) u = some b ∧ Q (.bl b) H) ∨ ∃ (tp : Addr) (cs : List V) (us : List Value) (b : Bool), xs = [.ref a, .ref tp] ∧ H tp = some (.tup cs) ∧ Paired ClsV cs us ∧ PySem.W.kitAny K (.ref D) us = some b ∧ Q (.bl b) H)
theorem call_isY {X : Cx} {a : Addr} {cls : Value} {d : Option Addr} {oe : Obj} {pn : List (Addr × Obj)} (hz : Zc cls d oe) (hf : ∃ vs, oe.data = .fields vs) : CallR (X.suite a ((a, oe) :: pn)) (.builtin "isinstance") (rIsY X.K a cls d) := by
  intro pins s σ H xs us Q I r h
  obtain ⟨D, rfl, ow, C, h⟩ := h
  obtain ⟨hget, _⟩ := I.pin (a, oe) (List.mem_append_left _ List.mem_cons_self)
  obtain ⟨vs, hv⟩ := hf
  obtain ⟨od, J⟩ : ∃ od, PySem.W.InstAt s.heap a oe D od := by
    obtain ⟨oc, odd, oda, osl⟩ := oe
    obtain ⟨h1, h2⟩ := hz
    dsimp only at h1 h2 hv
    subst h1 h2 hv
    rcases ow with rfl | ⟨dd, fs, rfl, e⟩
    · exact ⟨none, hget, rfl, rfl, trivial⟩
    · have hx : ObjOk X.prog X.w H s.heap dd (.xd fs) := I.hok dd _ e
      obtain ⟨mA, hns, _⟩ := hx
      obtain ⟨o2, ho, _⟩ := lookIn_ns hns
      exact ⟨some o2, hget, rfl, rfl, ho⟩
  obtain ⟨cd, hcd, _⟩ := PySem.W.any_some C.hd
  have Z := PySem.W.kitx_exc (x := a) (ox := oe) (od := od) (K := X.K) (C := D) (by rw [hcd]; rfl) C.hg C.hk C.hs C.ha C.hn C.ht C.hm
  rcases h with ⟨c, u, b, rfl, k, e, q⟩ | ⟨tp, cs, ws, b, rfl, hT, k, e, q⟩
  · cases r with
    | cons rx rr => cases rr with
      | cons rt rr =>
        cases rr
        cases rx
        have ec := k.eq rt
        subst ec
        exact PySem.W.kia_one Z I.kIn J e (fun z => nomatch z) fun tk => ⟨.bl b, H, I.tok tk, rfl, q⟩
  · cases r with
    | cons rx rr => cases rr with
      | cons rt rr =>
        cases rr
        cases rx
        cases rt
        obtain ⟨_, its, rv, o, h1, h2, n, h3⟩ := (show ObjOk X.prog X.w H s.heap tp (.tup cs) from I.hok tp _ hT)
        have e3 := ClsV.all k rv
        subst e3
        obtain ⟨oc, od2, dt, sl⟩ := o
        simp only at h2 h3
        subst h2 h3
        exact PySem.W.kia_tup Z I.kIn J h1 e (fun z => nomatch z) fun tk => ⟨.bl b, H, I.tok tk, rfl, q⟩
/-- e.row -/
theorem xf_of {K : PySem.W.Frag} {D : Addr} (C : ExcC K D) : XfC K D := ⟨C.hg, C.hk, C.hs, C.hd⟩
end WBX
/-! WBY: what a handler asks of an own exception that keeps its row. -/
namespace WBY
open PySem PySem.Spec PyProof.Rows L2 Wy
section
variable {K : PySem.W.Frag} {mg : Str → Option Value} {H : Hp} {Q : VK} {x y : Str} {a dd : Addr} {b : Bool} {fs : List (Str × V)}
theorem b_is (C : ExcC K (He.ga K x)) (e : H dd = some (.xd fs)) (u : WF.Ups K (.ref (He.ga K x)) (.ref (He.ga K y)) b) (h : Q (.bl b) H) : WBX.rIsY K a (.ref (He.ga K x)) (some dd) [.ref a, .ref (He.ga K y)] H Q :=
  ⟨_, rfl, .inr ⟨dd, fs, rfl, e⟩, C, .inl ⟨_, _, b, rfl, .own _, u.i, h⟩⟩
theorem b_isT {T : String} (C : ExcC K (He.ga K x)) (e : H dd = some (.xd fs)) (u : WF.Ups K (.ref (He.ga K x)) (.type T) b) (h : Q (.bl b) H) : WBX.rIsY K a (.ref (He.ga K x)) (some dd) [.ref a, .ty T] H Q :=
  ⟨_, rfl, .inr ⟨dd, fs, rfl, e⟩, C, .inl ⟨_, _, b, rfl, .ty T, u.i, h⟩⟩
/-- none of these classes -/
theorem b_none {tp : Addr} {cs : List V} {us : List Value} (C : ExcC K (He.ga K x)) (e : H dd = some (.xd fs)) (et : H tp = some (.tup cs)) (k : Paired ClsV cs us) (u : ∀ v ∈ us, PySem.W.kitOne K (.ref (He.ga K x)) v = some false) (h : Q (.bl false) H) : WBX.rIsY K a (.ref (He.ga K x)) (some dd) [.ref a, .ref tp] H Q := by
  refine ⟨_, rfl, .inr ⟨dd, fs, rfl, e⟩, C, .inr ⟨tp, cs, us, false, rfl, et, k, ?_, h⟩⟩
  clear k et h
  induction us with
  | nil => rfl
  | cons v r ih =>
    show (match PySem.W.kitOne K (.ref (He.ga K x)) v with | some true => some true | some false => PySem.W.kitAny K (.ref (He.ga K x)) r | none => none) = _
    rw [u v List.mem_cons_self]
    exact ih fun w hw => u w (List.mem_cons_of_mem _ hw)
end
/-- list(range(i, j)) -/
def Lrg (x y : V) (H : Hp) (Q : VK) : Prop := ∃ i j, x = .int i ∧ y = .int j ∧ RgOk i j ∧ ∀ q, H q = none → Q (.ref q) (upd H q (.lst (rgV i j)))
theorem w_lrg2 {ta tb : TE} {σ : L2.St} {H : Hp} {Q : VK} (h : ta σ H fun x H1 => tb σ H1 fun y H2 => Lrg x y H2 Q) : tLstRg (tRg2 ta tb) σ H Q := h
theorem l_rg {i j : Int} {H : Hp} {Q : VK} (ok : RgOk i j) (h : ∀ q H3, H q = none → Same H H3 → H3 q = some (.lst (rgV i j)) → Q (.ref q) H3) : Lrg (.int i) (.int j) H Q := ⟨i, j, rfl, rfl, ok, fun q hq => h q _ hq (fun b o e => by
  have n : b ≠ q := fun z => by rw [z, hq] at e; cases e
  rw [upd_ne n]
  exact e) upd_same⟩
end WBY
/-! WV30: what a row of a paper is, for any text; in plain Lean. -/
namespace W30
open PySem PySem.Spec PyProof.Rows L2 Wy WM W3 W4 WR
def nmO (z : Str) : Option Int := if numW 12 z = true then some (dv z) else none
theorem nm_int {z : Str} (h : numW 12 z = true) : intText? z = some (dv z) ∧ z.length ≤ 640 := by
  unfold numW at h
  simp only [Bool.and_eq_true, decide_eq_true_eq] at h
  obtain ⟨⟨⟨h1, h2⟩, h3⟩, _⟩ := h
  exact ⟨intText_digits (fun c hc => dig_range c (h3 c hc)) (ne_of_len h1) (by omega), by omega⟩
theorem dv_nat (z : Str) : 0 ≤ dv z := Int.natCast_nonneg _
theorem nmO_num {n : Nat} (h : n < 10 ^ 12) : nmO (numS n) = some (n : Int) := by
  unfold nmO
  rw [if_pos (numW_num (by decide) h), numS_dv]
def iD : Option Int → PyData
  | none => .none
  | some i => .int i
def iV : Option Int → V
  | none => .non
  | some i => .int i
theorem tp_iV {H : Hp} (o : Option Int) : Tp H (iV o) (iD o) := by
  cases o with
  | none => exact .non
  | some i => exact .int i
def isN : PyData → Bool
  | .none => true
  | _ => false
def wnO (z p0 : Str) (ds : List PyData) : PyData := if decide (p0 = z) && (!ds.isEmpty && !ds.any isN) then .tuple [.str z, .tuple ds] else .none
def cmO (z : Str) : PyData := if ((Txt.split z CM).map fun x => iD (nmO x)).any isN then .none else .tuple ((Txt.split z CM).map fun x => iD (nmO x))
def sgO (z : Str) : Option Int := if Txt.startswith z "-" then (match nmO (cutS z (some 1) none) with
    | none => none
    | some n => if n = 0 then none else some (-n))
  else nmO z
def tkL (p0 : Str) (ps : List Str) : PyData := if (p0 = "on" ∧ ps = []) ∨ (p0 = "over" ∧ ps = []) then .tuple [.str p0] else if p0 = "met" then wnO "met" p0 (ps.map cmO) else wnO "dead" p0 (ps.map fun x => iD (nmO x))
def tkO (z : Str) : PyData := match Txt.split z SP with
  | [] => .none
  | p0 :: ps => tkL p0 ps
def vdL (p0 : Str) (ps : List Str) : PyData := if p0 = "none" ∧ ps = [] then .tuple [.str "none"] else wnO "found" p0 (ps.map fun x => iD (sgO x))
def vdO (z : Str) : PyData := match Txt.split z SP with
  | [] => .none
  | p0 :: ps => vdL p0 ps
def szO (w z : Str) : Option Int := match Txt.split z SP with
  | [p0, p1] => if p0 = w then (match nmO p1 with
      | none => none
      | some n => if n = 0 then none else some n)
    else none
  | _ => none
def sbO (z : Str) : PyData := if Txt.startswith z "place " then .tuple [.str "place", .str (cutS z (some 6) none)] else match szO "apart" z with
  | none => .none
  | some n => .tuple [.str "apart", .int n]
/-- a row that is short and of common signs -/
structure Row (z : Str) : Prop where
  l : z.length ≤ 2000
  a : ∀ c ∈ tl z, c < 128
/-! ### the pieces of any text -/
def pcs (s : Nat) : List Nat → List (List Nat)
  | [] => [[]]
  | c :: r => if c = s then [] :: pcs s r else match pcs s r with
    | p :: ps => (c :: p) :: ps
    | [] => [[c]]
theorem pcs_ne (s : Nat) : ∀ l, pcs s l ≠ []
  | [] => by simp [pcs]
  | c :: r => by
    unfold pcs
    split
    · simp
    · split <;> simp
theorem pcs_no (s : Nat) : ∀ l, ∀ p ∈ pcs s l, s ∉ p
  | [], p, h => by
    simp [pcs] at h
    subst h
    simp
  | c :: r, p, h => by
    have ih := pcs_no s r
    unfold pcs at h
    split at h
    · rcases List.mem_cons.mp h with rfl | h
      · simp
      · exact ih p h
    · rename_i hc
      split at h
      · rename_i q qs e
        rw [e] at ih
        rcases List.mem_cons.mp h with rfl | h
        · intro hm
          rcases List.mem_cons.mp hm with z | hm
          · exact hc z.symm
          · exact ih q List.mem_cons_self hm
        · exact ih p (List.mem_cons_of_mem _ h)
      · rename_i e
        exact absurd e (pcs_ne s r)
theorem pcs_join (s : Nat) : ∀ l, TL.joinL [s] (pcs s l) = l
  | [] => rfl
  | c :: r => by
    have ih := pcs_join s r
    unfold pcs
    split
    · rename_i hc
      cases e : pcs s r with
      | nil => exact absurd e (pcs_ne s r)
      | cons p ps =>
        rw [e] at ih
        show [] ++ ([s] ++ TL.joinL [s] (p :: ps)) = c :: r
        rw [ih, hc]
        rfl
    · cases e : pcs s r with
      | nil => exact absurd e (pcs_ne s r)
      | cons p ps =>
        rw [e] at ih
        show TL.joinL [s] ((c :: p) :: ps) = c :: r
        cases ps with
        | nil =>
          have ih : p = r := ih
          show c :: p = c :: r
          rw [ih]
        | cons q qs =>
          have ih : p ++ ([s] ++ TL.joinL [s] (q :: qs)) = r := ih
          show (c :: p) ++ ([s] ++ TL.joinL [s] (q :: qs)) = c :: r
          rw [List.cons_append, ih]
theorem pcs_sub (s : Nat) : ∀ l, ∀ p ∈ pcs s l, p.length ≤ l.length ∧ ∀ c ∈ p, c ∈ l
  | [], p, h => by
    simp [pcs] at h
    subst h
    simp
  | c :: r, p, h => by
    have ih := pcs_sub s r
    unfold pcs at h
    split at h
    · rcases List.mem_cons.mp h with rfl | h
      · simp
      · obtain ⟨h1, h2⟩ := ih p h
        exact ⟨by rw [List.length_cons]; omega, fun x hx => List.mem_cons_of_mem _ (h2 x hx)⟩
    · split at h
      · rename_i q qs e
        rw [e] at ih
        rcases List.mem_cons.mp h with rfl | h
        · obtain ⟨h1, h2⟩ := ih q List.mem_cons_self
          refine ⟨by rw [List.length_cons, List.length_cons]; omega, fun x hx => ?_⟩
          rcases List.mem_cons.mp hx with rfl | hx
          · exact List.mem_cons_self
          · exact List.mem_cons_of_mem _ (h2 x hx)
        · obtain ⟨h1, h2⟩ := ih p (List.mem_cons_of_mem _ h)
          exact ⟨by rw [List.length_cons]; omega, fun x hx => List.mem_cons_of_mem _ (h2 x hx)⟩
      · rename_i e
        exact absurd e (pcs_ne s r)
theorem pcs_many (s : Nat) : ∀ l, (pcs s l).length ≤ l.length + 1
  | [] => by simp [pcs]
  | c :: r => by
    have ih := pcs_many s r
    unfold pcs
    split
    · rw [List.length_cons, List.length_cons]
      omega
    · split
      · rename_i q qs e
        rw [e] at ih
        rw [List.length_cons] at ih ⊢
        rw [List.length_cons]
        omega
      · simp
theorem split_any {z y : Str} {s : Nat} (e : tl y = [s]) (hk : y.cps.all (· < 256) = true) : Txt.split z y = (pcs s (tl z)).map mkS := by
  have h1 : z = Txt.join y ((pcs s (tl z)).map mkS) := by
    refine str_ext ?_
    show tl z = tl _
    rw [jl, e, List.map_map, show (tl ∘ mkS) = id from funext fun l => mkS_tl l, List.map_id, pcs_join]
  have h2 := TL.split_join (y := y) (s := s) (S := []) e hk (parts := (pcs s (tl z)).map mkS) (by simpa using pcs_ne s (tl z)) fun p hp => by
    obtain ⟨q, hq, rfl⟩ := List.mem_map.mp hp
    show s ∉ tl (mkS q)
    rw [mkS_tl]
    exact pcs_no s _ q hq
  rw [← h1] at h2
  exact h2
/-- the pieces of a row are rows -/
theorem split_row {z y : Str} {s : Nat} (h : Row z) (e : tl y = [s]) (hk : y.cps.all (· < 256) = true) : ∃ p ps, Txt.split z y = p :: ps ∧ (∀ x ∈ p :: ps, Row x ∧ s ∉ tl x) ∧ (p :: ps).length ≤ 2001 := by
  rw [split_any e hk]
  have hl : (tl z).length = z.length := (str_len z).symm
  cases q : pcs s (tl z) with
  | nil => exact absurd q (pcs_ne s _)
  | cons p ps =>
    have sub := pcs_sub s (tl z)
    have no := pcs_no s (tl z)
    have many := pcs_many s (tl z)
    rw [q] at sub no many
    refine ⟨mkS p, ps.map mkS, rfl, fun x hx => ?_, ?_⟩
    · obtain ⟨w, hw, rfl⟩ := List.mem_map.mp (show x ∈ (p :: ps).map mkS from hx)
      obtain ⟨h1, h2⟩ := sub w hw
      refine ⟨⟨?_, fun c hc => ?_⟩, ?_⟩
      · rw [str_len]
        show (tl (mkS w)).length ≤ 2000
        rw [mkS_tl]
        have := h.l
        omega
      · rw [mkS_tl] at hc
        exact h.a c (h2 c hc)
      · rw [mkS_tl]
        exact no w hw
    · have := h.l
      rw [List.length_cons, List.length_map, ← List.length_cons (a := p)]
      omega
end W30
namespace K30
open PySem PySem.Spec PyProof.Rows L2 Wy
/-! ### the text -/
def top (i : Nat) : Stmt := PySem.Challenge.pw_wayorring_k30_wrong_rows_of_papers.main.body.getD i (.Pass ⟨0, 0, 0, 0⟩)
def mth (i j : Nat) : Stmt := (C8.clsBody (top i)).getD j (.Pass ⟨0, 0, 0, 0⟩)
abbrev s_wall : Stmt := top 0
abbrev n_wall : List Str := ["k"]
theorem sc_wall : FnScope n_wall ["k"] (defScope s_wall) := C8.fnScope_by (by decide +kernel)
abbrev s_is_numeral : Stmt := top 15
abbrev n_is_numeral : List Str := ["word", "most"]
theorem sc_is_numeral : FnScope n_is_numeral ["word", "most"] (defScope s_is_numeral) := C8.fnScope_by (by decide +kernel)
abbrev s_run_end : Stmt := top 16
abbrev n_run_end : List Str := ["text", "at", "characters"]
theorem sc_run_end : FnScope n_run_end ["text", "at", "characters"] (defScope s_run_end) := C8.fnScope_by (by decide +kernel)
abbrev s_Paper___init : Stmt := mth 19 0
abbrev n_Paper___init : List Str := ["self", "text", "subject", "verdict", "tokens"]
theorem sc_Paper___init : FnScope n_Paper___init ["self", "text", "subject", "verdict", "tokens"] (defScope s_Paper___init) := C8.fnScope_by (by decide +kernel)
abbrev s_Paper_same : Stmt := mth 19 1
abbrev n_Paper_same : List Str := ["self", "other"]
theorem sc_Paper_same : FnScope n_Paper_same ["self", "other"] (defScope s_Paper_same) := C8.fnScope_by (by decide +kernel)
abbrev s_read_paper : Stmt := top 20
abbrev n_read_paper : List Str := ["text", "reader", "program", "word", "told", "subject", "verdict", "tokens"]
theorem sc_read_paper : FnScope n_read_paper ["text"] (defScope s_read_paper) := C8.fnScope_by (by decide +kernel)
abbrev s_PaperReader___init : Stmt := mth 21 0
abbrev n_PaperReader___init : List Str := ["self", "lines"]
theorem sc_PaperReader___init : FnScope n_PaperReader___init ["self", "lines"] (defScope s_PaperReader___init) := C8.fnScope_by (by decide +kernel)
abbrev s_PaperReader_is_done : Stmt := mth 21 1
abbrev n_PaperReader_is_done : List Str := ["self"]
theorem sc_PaperReader_is_done : FnScope n_PaperReader_is_done ["self"] (defScope s_PaperReader_is_done) := C8.fnScope_by (by decide +kernel)
abbrev s_PaperReader_take : Stmt := mth 21 2
abbrev n_PaperReader_take : List Str := ["self", "form", "found"]
theorem sc_PaperReader_take : FnScope n_PaperReader_take ["self", "form"] (defScope s_PaperReader_take) := C8.fnScope_by (by decide +kernel)
abbrev s_PaperReader_take_lines : Stmt := mth 21 3
abbrev n_PaperReader_take_lines : List Str := ["self", "many", "lines"]
theorem sc_PaperReader_take_lines : FnScope n_PaperReader_take_lines ["self", "many"] (defScope s_PaperReader_take_lines) := C8.fnScope_by (by decide +kernel)
abbrev s_text_size : Stmt := top 22
abbrev n_text_size : List Str := ["line"]
theorem sc_text_size : FnScope n_text_size ["line"] (defScope s_text_size) := C8.fnScope_by (by decide +kernel)
abbrev s_subject_of : Stmt := top 23
abbrev n_subject_of : List Str := ["line", "size"]
theorem sc_subject_of : FnScope n_subject_of ["line"] (defScope s_subject_of) := C8.fnScope_by (by decide +kernel)
abbrev s_verdict_of_line : Stmt := top 24
abbrev n_verdict_of_line : List Str := ["line", "parts", "part"]
theorem sc_verdict_of_line : FnScope n_verdict_of_line ["line"] (defScope s_verdict_of_line) := C8.fnScope_by (by decide +kernel)
abbrev s_token_of : Stmt := top 25
abbrev n_token_of : List Str := ["line", "parts", "part"]
theorem sc_token_of : FnScope n_token_of ["line"] (defScope s_token_of) := C8.fnScope_by (by decide +kernel)
abbrev s_with_numbers : Stmt := top 26
abbrev n_with_numbers : List Str := ["word", "parts", "numbers"]
theorem sc_with_numbers : FnScope n_with_numbers ["word", "parts", "numbers"] (defScope s_with_numbers) := C8.fnScope_by (by decide +kernel)
abbrev s_size_behind : Stmt := top 27
abbrev n_size_behind : List Str := ["word", "line", "parts", "size"]
theorem sc_size_behind : FnScope n_size_behind ["word", "line"] (defScope s_size_behind) := C8.fnScope_by (by decide +kernel)
abbrev s_number : Stmt := top 28
abbrev n_number : List Str := ["part"]
theorem sc_number : FnScope n_number ["part"] (defScope s_number) := C8.fnScope_by (by decide +kernel)
abbrev s_signed_number : Stmt := top 29
abbrev n_signed_number : List Str := ["part", "size"]
theorem sc_signed_number : FnScope n_signed_number ["part"] (defScope s_signed_number) := C8.fnScope_by (by decide +kernel)
abbrev s_numbers_between_commas : Stmt := top 30
abbrev n_numbers_between_commas : List Str := ["part", "numbers", "each"]
theorem sc_numbers_between_commas : FnScope n_numbers_between_commas ["part"] (defScope s_numbers_between_commas) := C8.fnScope_by (by decide +kernel)
abbrev s_law_cell : Stmt := top 32
abbrev n_law_cell : List Str := ["script", "k"]
theorem sc_law_cell : FnScope n_law_cell ["script", "k"] (defScope s_law_cell) := C8.fnScope_by (by decide +kernel)
abbrev s_law_draws : Stmt := top 33
abbrev n_law_draws : List Str := ["script", "place", "sizes", "primes", "cell", "rest", "draws", "k", "first", "mixed"]
theorem sc_law_draws : FnScope n_law_draws ["script", "place", "sizes"] (defScope s_law_draws) := C8.fnScope_by (by decide +kernel)
abbrev s_law_row : Stmt := top 34
abbrev n_law_row : List Str := ["draws", "tricky", "signs", "number", "row", "k"]
theorem sc_law_row : FnScope n_law_row ["draws"] (defScope s_law_row) := C8.fnScope_by (by decide +kernel)
abbrev s_law_rows : Stmt := top 35
abbrev n_law_rows : List Str := ["script", "place", "count", "rows", "k"]
theorem sc_law_rows : FnScope n_law_rows ["script", "place", "count"] (defScope s_law_rows) := C8.fnScope_by (by decide +kernel)
abbrev s_law_number : Stmt := top 36
abbrev n_law_number : List Str := ["draw"]
theorem sc_law_number : FnScope n_law_number ["draw"] (defScope s_law_number) := C8.fnScope_by (by decide +kernel)
abbrev s_law_numbers : Stmt := top 37
abbrev n_law_numbers : List Str := ["draws", "draw"]
theorem sc_law_numbers : FnScope n_law_numbers ["draws"] (defScope s_law_numbers) := C8.fnScope_by (by decide +kernel)
abbrev s_law_token : Stmt := top 38
abbrev n_law_token : List Str := ["script", "place", "draws", "floors", "k"]
theorem sc_law_token : FnScope n_law_token ["script", "place"] (defScope s_law_token) := C8.fnScope_by (by decide +kernel)
abbrev s_law_parts : Stmt := top 39
abbrev n_law_parts : List Str := ["script", "shape", "text", "subject", "verdict", "draws", "count", "k"]
theorem sc_law_parts : FnScope n_law_parts ["script"] (defScope s_law_parts) := C8.fnScope_by (by decide +kernel)
abbrev s_law_joined : Stmt := top 40
abbrev n_law_joined : List Str := ["numbers", "sign", "number"]
theorem sc_law_joined : FnScope n_law_joined ["numbers", "sign"] (defScope s_law_joined) := C8.fnScope_by (by decide +kernel)
abbrev s_law_lines : Stmt := top 41
abbrev n_law_lines : List Str := ["parts", "text", "subject", "verdict", "tokens", "lines", "token", "line", "floor"]
theorem sc_law_lines : FnScope n_law_lines ["parts"] (defScope s_law_lines) := C8.fnScope_by (by decide +kernel)
abbrev s_law_first : Stmt := top 42
abbrev n_law_first : List Str := ["many", "choice", "number", "rows"]
theorem sc_law_first : FnScope n_law_first ["many", "choice"] (defScope s_law_first) := C8.fnScope_by (by decide +kernel)
abbrev s_law_subject : Stmt := top 43
abbrev n_law_subject : List Str := ["choice", "rows"]
theorem sc_law_subject : FnScope n_law_subject ["choice"] (defScope s_law_subject) := C8.fnScope_by (by decide +kernel)
abbrev s_law_verdict : Stmt := top 44
abbrev n_law_verdict : List Str := ["choice", "rows"]
theorem sc_law_verdict : FnScope n_law_verdict ["choice"] (defScope s_law_verdict) := C8.fnScope_by (by decide +kernel)
abbrev s_law_odd : Stmt := top 45
abbrev n_law_odd : List Str := ["choice", "rows"]
theorem sc_law_odd : FnScope n_law_odd ["choice"] (defScope s_law_odd) := C8.fnScope_by (by decide +kernel)
abbrev s_law_spoilt : Stmt := top 46
abbrev n_law_spoilt : List Str := ["lines", "subject", "verdict", "draws", "rows", "kind", "many", "at"]
theorem sc_law_spoilt : FnScope n_law_spoilt ["lines", "subject", "verdict", "draws"] (defScope s_law_spoilt) := C8.fnScope_by (by decide +kernel)
abbrev s_law_refused : Stmt := top 47
abbrev n_law_refused : List Str := ["text", "e"]
theorem sc_law_refused : FnScope n_law_refused ["text"] (defScope s_law_refused) := C8.fnScope_by (by decide +kernel)
abbrev s_law : Stmt := top 48
abbrev n_law : List Str := ["script", "parts", "lines", "subject", "verdict", "draws", "paper", "rows", "row", "later", "found", "k"]
theorem sc_law : FnScope n_law ["script"] (defScope s_law) := C8.fnScope_by (by decide +kernel)
abbrev fileP : Str := PySem.Challenge.pw_wayorring_k30_wrong_rows_of_papers.main.file
abbrev s_BadLine_init : Stmt := (C8.clsBody (top 3)).getD 0 (.Pass ⟨0, 0, 0, 0⟩)
def ss_BadLine : WHS.SpS := { cls := "BadLine", qual := "BadLine.__init__", params := defArgs s_BadLine_init, body := defBody s_BadLine_init, scope := defScope s_BadLine_init }
/-! ### what the top has made -/
structure Tx (K : PySem.W.Frag) (mg : Str → Option Value) : Prop where
  d_wall : DefOk K mg "_wall" s_wall
  d_is_numeral : DefOk K mg "is_numeral" s_is_numeral
  d_run_end : DefOk K mg "_run_end" s_run_end
  d_read_paper : DefOk K mg "read_paper" s_read_paper
  d_text_size : DefOk K mg "_text_size" s_text_size
  d_subject_of : DefOk K mg "_subject_of" s_subject_of
  d_verdict_of_line : DefOk K mg "_verdict_of_line" s_verdict_of_line
  d_token_of : DefOk K mg "_token_of" s_token_of
  d_with_numbers : DefOk K mg "_with_numbers" s_with_numbers
  d_size_behind : DefOk K mg "_size_behind" s_size_behind
  d_number : DefOk K mg "_number" s_number
  d_signed_number : DefOk K mg "_signed_number" s_signed_number
  d_numbers_between_commas : DefOk K mg "_numbers_between_commas" s_numbers_between_commas
  d_law_cell : DefOk K mg "_law_cell" s_law_cell
  d_law_draws : DefOk K mg "_law_draws" s_law_draws
  d_law_row : DefOk K mg "_law_row" s_law_row
  d_law_rows : DefOk K mg "_law_rows" s_law_rows
  d_law_number : DefOk K mg "_law_number" s_law_number
  d_law_numbers : DefOk K mg "_law_numbers" s_law_numbers
  d_law_token : DefOk K mg "_law_token" s_law_token
  d_law_parts : DefOk K mg "_law_parts" s_law_parts
  d_law_joined : DefOk K mg "_law_joined" s_law_joined
  d_law_lines : DefOk K mg "_law_lines" s_law_lines
  d_law_first : DefOk K mg "_law_first" s_law_first
  d_law_subject : DefOk K mg "_law_subject" s_law_subject
  d_law_verdict : DefOk K mg "_law_verdict" s_law_verdict
  d_law_odd : DefOk K mg "_law_odd" s_law_odd
  d_law_spoilt : DefOk K mg "_law_spoilt" s_law_spoilt
  d_law_refused : DefOk K mg "_law_refused" s_law_refused
  d_law : DefOk K mg "law" s_law
  c_Paper : Cls K (He.ga K "Paper")
  a_Paper_text : NoAttr K (He.ga K "Paper") "text"
  a_Paper_subject : NoAttr K (He.ga K "Paper") "subject"
  a_Paper_verdict : NoAttr K (He.ga K "Paper") "verdict"
  a_Paper_tokens : NoAttr K (He.ga K "Paper") "tokens"
  c_PaperReader : Cls K (He.ga K "PaperReader")
  a_PaperReader__lines : NoAttr K (He.ga K "PaperReader") "_lines"
  a_PaperReader__taken : NoAttr K (He.ga K "PaperReader") "_taken"
  d_Paper___init : WO.MakOk K mg "Paper" "Paper.__init__" s_Paper___init
  d_Paper_same : WO.MetOk K "Paper" "same" "Paper.same" s_Paper_same
  d_PaperReader___init : WO.MakOk K mg "PaperReader" "PaperReader.__init__" s_PaperReader___init
  d_PaperReader_is_done : WO.MetOk K "PaperReader" "is_done" "PaperReader.is_done" s_PaperReader_is_done
  d_PaperReader_take : WO.MetOk K "PaperReader" "take" "PaperReader.take" s_PaperReader_take
  d_PaperReader_take_lines : WO.MetOk K "PaperReader" "take_lines" "PaperReader.take_lines" s_PaperReader_take_lines
  g_DIGITS : ∃ u, mg "DIGITS" = some u ∧ RelV (.str "0123456789") u
  g_MOST_DIGITS : ∃ u, mg "MOST_DIGITS" = some u ∧ RelV (.int 12) u
  x_WayError : mg "WayError" = some (.ref (He.ga K "WayError"))
  x_BadLine : mg "BadLine" = some (.ref (He.ga K "BadLine"))
  x_BadText : mg "BadText" = some (.ref (He.ga K "BadText"))
  x_BadProgram : mg "BadProgram" = some (.ref (He.ga K "BadProgram"))
  x_BadPaper : mg "BadPaper" = some (.ref (He.ga K "BadPaper"))
  x_TooLong : mg "TooLong" = some (.ref (He.ga K "TooLong"))
  x_TooWide : mg "TooWide" = some (.ref (He.ga K "TooWide"))
  x_BadPlace : mg "BadPlace" = some (.ref (He.ga K "BadPlace"))
  x_BadInput : mg "BadInput" = some (.ref (He.ga K "BadInput"))
  x_BadPair : mg "BadPair" = some (.ref (He.ga K "BadPair"))
  x_BadEdit : mg "BadEdit" = some (.ref (He.ga K "BadEdit"))
  u_BadPaper_WayError : WF.Ups K (.ref (He.ga K "BadPaper")) (.ref (He.ga K "WayError")) true
  u_BadPaper_BadLine : WF.Ups K (.ref (He.ga K "BadPaper")) (.ref (He.ga K "BadLine")) true
  u_BadPaper_BadText : WF.Ups K (.ref (He.ga K "BadPaper")) (.ref (He.ga K "BadText")) false
  u_BadPaper_BadProgram : WF.Ups K (.ref (He.ga K "BadPaper")) (.ref (He.ga K "BadProgram")) false
  u_BadPaper_BadPaper : WF.Ups K (.ref (He.ga K "BadPaper")) (.ref (He.ga K "BadPaper")) true
  u_BadPaper_TooLong : WF.Ups K (.ref (He.ga K "BadPaper")) (.ref (He.ga K "TooLong")) false
  u_BadPaper_TooWide : WF.Ups K (.ref (He.ga K "BadPaper")) (.ref (He.ga K "TooWide")) false
  u_BadPaper_BadPlace : WF.Ups K (.ref (He.ga K "BadPaper")) (.ref (He.ga K "BadPlace")) false
  u_BadPaper_BadInput : WF.Ups K (.ref (He.ga K "BadPaper")) (.ref (He.ga K "BadInput")) false
  u_BadPaper_BadPair : WF.Ups K (.ref (He.ga K "BadPaper")) (.ref (He.ga K "BadPair")) false
  u_BadPaper_BadEdit : WF.Ups K (.ref (He.ga K "BadPaper")) (.ref (He.ga K "BadEdit")) false
  u_BadPaper_ValueError : WF.Ups K (.ref (He.ga K "BadPaper")) (.type "ValueError") true
  b_BadPaper : WHS.BadK K mg "BadLine" "BadPaper"
  q_BadLine : WHS.fnS K (ss_BadLine.fI K) = ss_BadLine.val ∧ ss_BadLine.ok K fileP = true
  z_ValueError : mg "ValueError" = none
  z_abs : mg "abs" = none
  z_bool : mg "bool" = none
  z_int : mg "int" = none
  z_isinstance : mg "isinstance" = none
  z_len : mg "len" = none
  z_list : mg "list" = none
  z_max : mg "max" = none
  z_range : mg "range" = none
  z_repr : mg "repr" = none
  z_str : mg "str" = none
  z_super : mg "super" = none
  z_tuple : mg "tuple" = none
/-! ### the head -/
def fn : List He.DefD := [⟨("_wall", none), "_wall", "_wall", defArgs s_wall, defBody s_wall, defScope s_wall, [], []⟩, ⟨("is_numeral", none), "is_numeral", "is_numeral", defArgs s_is_numeral, defBody s_is_numeral, defScope s_is_numeral, [], []⟩, ⟨("_run_end", none), "_run_end", "_run_end", defArgs s_run_end, defBody s_run_end, defScope s_run_end, [], []⟩, ⟨("read_paper", none), "read_paper", "read_paper", defArgs s_read_paper, defBody s_read_paper, defScope s_read_paper, [], []⟩, ⟨("_text_size", none), "_text_size", "_text_size", defArgs s_text_size, defBody s_text_size, defScope s_text_size, [], []⟩, ⟨("_subject_of", none), "_subject_of", "_subject_of", defArgs s_subject_of, defBody s_subject_of, defScope s_subject_of, [], []⟩, ⟨("_verdict_of_line", none), "_verdict_of_line", "_verdict_of_line", defArgs s_verdict_of_line, defBody s_verdict_of_line, defScope s_verdict_of_line, [], []⟩, ⟨("_token_of", none), "_token_of", "_token_of", defArgs s_token_of, defBody s_token_of, defScope s_token_of, [], []⟩, ⟨("_with_numbers", none), "_with_numbers", "_with_numbers", defArgs s_with_numbers, defBody s_with_numbers, defScope s_with_numbers, [], []⟩, ⟨("_size_behind", none), "_size_behind", "_size_behind", defArgs s_size_behind, defBody s_size_behind, defScope s_size_behind, [], []⟩, ⟨("_number", none), "_number", "_number", defArgs s_number, defBody s_number, defScope s_number, [], []⟩, ⟨("_signed_number", none), "_signed_number", "_signed_number", defArgs s_signed_number, defBody s_signed_number, defScope s_signed_number, [], []⟩, ⟨("_numbers_between_commas", none), "_numbers_between_commas", "_numbers_between_commas", defArgs s_numbers_between_commas, defBody s_numbers_between_commas, defScope s_numbers_between_commas, [], []⟩, ⟨("_law_cell", none), "_law_cell", "_law_cell", defArgs s_law_cell, defBody s_law_cell, defScope s_law_cell, [], []⟩, ⟨("_law_draws", none), "_law_draws", "_law_draws", defArgs s_law_draws, defBody s_law_draws, defScope s_law_draws, [], []⟩, ⟨("_law_row", none), "_law_row", "_law_row", defArgs s_law_row, defBody s_law_row, defScope s_law_row, [], []⟩, ⟨("_law_rows", none), "_law_rows", "_law_rows", defArgs s_law_rows, defBody s_law_rows, defScope s_law_rows, [], []⟩, ⟨("_law_number", none), "_law_number", "_law_number", defArgs s_law_number, defBody s_law_number, defScope s_law_number, [], []⟩, ⟨("_law_numbers", none), "_law_numbers", "_law_numbers", defArgs s_law_numbers, defBody s_law_numbers, defScope s_law_numbers, [], []⟩, ⟨("_law_token", none), "_law_token", "_law_token", defArgs s_law_token, defBody s_law_token, defScope s_law_token, [], []⟩, ⟨("_law_parts", none), "_law_parts", "_law_parts", defArgs s_law_parts, defBody s_law_parts, defScope s_law_parts, [], []⟩, ⟨("_law_joined", none), "_law_joined", "_law_joined", defArgs s_law_joined, defBody s_law_joined, defScope s_law_joined, [], []⟩, ⟨("_law_lines", none), "_law_lines", "_law_lines", defArgs s_law_lines, defBody s_law_lines, defScope s_law_lines, [], []⟩, ⟨("_law_first", none), "_law_first", "_law_first", defArgs s_law_first, defBody s_law_first, defScope s_law_first, [], []⟩, ⟨("_law_subject", none), "_law_subject", "_law_subject", defArgs s_law_subject, defBody s_law_subject, defScope s_law_subject, [], []⟩, ⟨("_law_verdict", none), "_law_verdict", "_law_verdict", defArgs s_law_verdict, defBody s_law_verdict, defScope s_law_verdict, [], []⟩, ⟨("_law_odd", none), "_law_odd", "_law_odd", defArgs s_law_odd, defBody s_law_odd, defScope s_law_odd, [], []⟩, ⟨("_law_spoilt", none), "_law_spoilt", "_law_spoilt", defArgs s_law_spoilt, defBody s_law_spoilt, defScope s_law_spoilt, [], []⟩, ⟨("_law_refused", none), "_law_refused", "_law_refused", defArgs s_law_refused, defBody s_law_refused, defScope s_law_refused, [], []⟩, ⟨("law", none), "law", "law", defArgs s_law, defBody s_law, defScope s_law, [], []⟩, ⟨("Paper", some "__init__"), "__init__", "Paper.__init__", defArgs s_Paper___init, defBody s_Paper___init, defScope s_Paper___init, [], []⟩, ⟨("Paper", some "same"), "same", "Paper.same", defArgs s_Paper_same, defBody s_Paper_same, defScope s_Paper_same, [], []⟩, ⟨("PaperReader", some "__init__"), "__init__", "PaperReader.__init__", defArgs s_PaperReader___init, defBody s_PaperReader___init, defScope s_PaperReader___init, [], []⟩, ⟨("PaperReader", some "is_done"), "is_done", "PaperReader.is_done", defArgs s_PaperReader_is_done, defBody s_PaperReader_is_done, defScope s_PaperReader_is_done, [], []⟩, ⟨("PaperReader", some "take"), "take", "PaperReader.take", defArgs s_PaperReader_take, defBody s_PaperReader_take, defScope s_PaperReader_take, [], []⟩, ⟨("PaperReader", some "take_lines"), "take_lines", "PaperReader.take_lines", defArgs s_PaperReader_take_lines, defBody s_PaperReader_take_lines, defScope s_PaperReader_take_lines, [], []⟩]
def fa : List He.Fa := [.glo "_wall", .glo "is_numeral", .glo "_run_end", .glo "read_paper", .glo "_text_size", .glo "_subject_of", .glo "_verdict_of_line", .glo "_token_of", .glo "_with_numbers", .glo "_size_behind", .glo "_number", .glo "_signed_number", .glo "_numbers_between_commas", .glo "_law_cell", .glo "_law_draws", .glo "_law_row", .glo "_law_rows", .glo "_law_number", .glo "_law_numbers", .glo "_law_token", .glo "_law_parts", .glo "_law_joined", .glo "_law_lines", .glo "_law_first", .glo "_law_subject", .glo "_law_verdict", .glo "_law_odd", .glo "_law_spoilt", .glo "_law_refused", .glo "law", .str "DIGITS" "0123456789", .int "MOST_DIGITS" 12, .free "ValueError", .free "abs", .free "bool", .free "int", .free "isinstance", .free "len", .free "list", .free "max", .free "range", .free "repr", .free "str", .free "super", .free "tuple", .glo "Paper", .cls "Paper", .noat "Paper" "text", .noat "Paper" "subject", .noat "Paper" "verdict", .noat "Paper" "tokens", .mkr "Paper", .meth "Paper" "same", .glo "PaperReader", .cls "PaperReader", .noat "PaperReader" "_lines", .noat "PaperReader" "_taken", .mkr "PaperReader", .meth "PaperReader" "is_done", .meth "PaperReader" "take", .meth "PaperReader" "take_lines", .glo "WayError", .glo "BadLine", .glo "BadText", .glo "BadProgram", .glo "BadPaper", .glo "TooLong", .glo "TooWide", .glo "BadPlace", .glo "BadInput", .glo "BadPair", .glo "BadEdit"]
def ts : List He.Tab := []
def ex (K : PySem.W.Frag) : Bool := WF.upsB K (.ref (He.ga K "BadPaper")) (.ref (He.ga K "WayError")) true && WF.upsB K (.ref (He.ga K "BadPaper")) (.ref (He.ga K "BadLine")) true && WF.upsB K (.ref (He.ga K "BadPaper")) (.ref (He.ga K "BadText")) false && WF.upsB K (.ref (He.ga K "BadPaper")) (.ref (He.ga K "BadProgram")) false && WF.upsB K (.ref (He.ga K "BadPaper")) (.ref (He.ga K "BadPaper")) true && WF.upsB K (.ref (He.ga K "BadPaper")) (.ref (He.ga K "TooLong")) false && WF.upsB K (.ref (He.ga K "BadPaper")) (.ref (He.ga K "TooWide")) false && WF.upsB K (.ref (He.ga K "BadPaper")) (.ref (He.ga K "BadPlace")) false && WF.upsB K (.ref (He.ga K "BadPaper")) (.ref (He.ga K "BadInput")) false && WF.upsB K (.ref (He.ga K "BadPaper")) (.ref (He.ga K "BadPair")) false && WF.upsB K (.ref (He.ga K "BadPaper")) (.ref (He.ga K "BadEdit")) false && WF.upsB K (.ref (He.ga K "BadPaper")) (.type "ValueError") true && WHS.badB K "BadLine" "BadPaper"
def tf : List He.Defn := []
def sss : List WHS.SpS := [ss_BadLine]
abbrev R : PySem.W.OpenRow := PySem.W.OpenLaw.row PySem.Challenge.rw_wayorring_k30_wrong_rows_of_papers
abbrev hk : PySem.W.Hook := WHS.hookS 6 fa fn ts tf ex [] fileP sss
def ob (s : PySem.W.SharedT) : WHS.AlS := WHS.obsS 6 fa fn ts tf ex [] fileP sss (HandSHeadRun.getT s)
theorem ob_eq (s : PySem.W.SharedT) : ob s = hk.obs s.abs := WHS.obsS_eq (HandSHeadRun.getT_eq s)
def loose : List Str := (["_wall", "WayError", "BadLine", "BadText", "BadProgram", "BadPaper", "TooLong", "TooWide", "BadPlace", "BadInput", "BadPair", "BadEdit", "DIGITS", "is_numeral", "_run_end", "MOST_DIGITS", "Paper", "read_paper", "PaperReader", "_text_size", "_subject_of", "_verdict_of_line", "_token_of", "_with_numbers", "_size_behind", "_number", "_signed_number", "_numbers_between_commas", "_law_cell", "_law_draws"] : List Str) ++ (["_law_row", "_law_rows", "_law_number", "_law_numbers", "_law_token", "_law_parts", "_law_joined", "_law_lines", "_law_first", "_law_subject", "_law_verdict", "_law_odd", "_law_spoilt", "_law_refused"] : List Str)
set_option maxHeartbeats 0 in
theorem run (w : World) : HandSHeadRun.RunEq R (PySem.W.view R.prog [48]) hk ob 20000 loose w := by
  intro os
  kernel_rfl
theorem tx_of {w : World} {K : PySem.W.Frag} {h h2 : Heap} {mg : Str → Option Value} (X : K.In h) (G : h.Ns mainGlobals mg) (c2 : WHS.SaysS fa fn ts tf ex [] fileP sss w h2 K) : Tx K mg := by
  have c := c2.x.t.d
  have m : ex K = true := c2.more
  unfold ex at m
  obtain ⟨l12, m12⟩ := He.ba m
  obtain ⟨l11, m11⟩ := He.ba l12
  obtain ⟨l10, m10⟩ := He.ba l11
  obtain ⟨l9, m9⟩ := He.ba l10
  obtain ⟨l8, m8⟩ := He.ba l9
  obtain ⟨l7, m7⟩ := He.ba l8
  obtain ⟨l6, m6⟩ := He.ba l7
  obtain ⟨l5, m5⟩ := He.ba l6
  obtain ⟨l4, m4⟩ := He.ba l5
  obtain ⟨l3, m3⟩ := He.ba l4
  obtain ⟨l2, m2⟩ := He.ba l3
  obtain ⟨l1, m1⟩ := He.ba l2
  refine ⟨?_, ?_, ?_, ?_, ?_, ?_, ?_, ?_, ?_, ?_, ?_, ?_, ?_, ?_, ?_, ?_, ?_, ?_, ?_, ?_, ?_, ?_, ?_, ?_, ?_, ?_, ?_, ?_, ?_, ?_, ?_, ?_, ?_, ?_, ?_, ?_, ?_, ?_, ?_, ?_, ?_, ?_, ?_, ?_, ?_, ?_, ?_, ?_, ?_, ?_, ?_, ?_, ?_, ?_, ?_, ?_, ?_, ?_, ?_, ?_, ?_, ?_, ?_, ?_, ?_, ?_, ?_, ?_, ?_, ?_, ?_, ?_, ?_, ?_, ?_, ?_, ?_, ?_, ?_, ?_, ?_, ?_, ?_, ?_⟩
  · obtain ⟨fd, F⟩ := c.def_ 0 rfl
    exact ⟨_, fd, F, He.glo_ok X G (c.fact 0 (f := .glo "_wall") rfl)⟩
  · obtain ⟨fd, F⟩ := c.def_ 1 rfl
    exact ⟨_, fd, F, He.glo_ok X G (c.fact 1 (f := .glo "is_numeral") rfl)⟩
  · obtain ⟨fd, F⟩ := c.def_ 2 rfl
    exact ⟨_, fd, F, He.glo_ok X G (c.fact 2 (f := .glo "_run_end") rfl)⟩
  · obtain ⟨fd, F⟩ := c.def_ 3 rfl
    exact ⟨_, fd, F, He.glo_ok X G (c.fact 3 (f := .glo "read_paper") rfl)⟩
  · obtain ⟨fd, F⟩ := c.def_ 4 rfl
    exact ⟨_, fd, F, He.glo_ok X G (c.fact 4 (f := .glo "_text_size") rfl)⟩
  · obtain ⟨fd, F⟩ := c.def_ 5 rfl
    exact ⟨_, fd, F, He.glo_ok X G (c.fact 5 (f := .glo "_subject_of") rfl)⟩
  · obtain ⟨fd, F⟩ := c.def_ 6 rfl
    exact ⟨_, fd, F, He.glo_ok X G (c.fact 6 (f := .glo "_verdict_of_line") rfl)⟩
  · obtain ⟨fd, F⟩ := c.def_ 7 rfl
    exact ⟨_, fd, F, He.glo_ok X G (c.fact 7 (f := .glo "_token_of") rfl)⟩
  · obtain ⟨fd, F⟩ := c.def_ 8 rfl
    exact ⟨_, fd, F, He.glo_ok X G (c.fact 8 (f := .glo "_with_numbers") rfl)⟩
  · obtain ⟨fd, F⟩ := c.def_ 9 rfl
    exact ⟨_, fd, F, He.glo_ok X G (c.fact 9 (f := .glo "_size_behind") rfl)⟩
  · obtain ⟨fd, F⟩ := c.def_ 10 rfl
    exact ⟨_, fd, F, He.glo_ok X G (c.fact 10 (f := .glo "_number") rfl)⟩
  · obtain ⟨fd, F⟩ := c.def_ 11 rfl
    exact ⟨_, fd, F, He.glo_ok X G (c.fact 11 (f := .glo "_signed_number") rfl)⟩
  · obtain ⟨fd, F⟩ := c.def_ 12 rfl
    exact ⟨_, fd, F, He.glo_ok X G (c.fact 12 (f := .glo "_numbers_between_commas") rfl)⟩
  · obtain ⟨fd, F⟩ := c.def_ 13 rfl
    exact ⟨_, fd, F, He.glo_ok X G (c.fact 13 (f := .glo "_law_cell") rfl)⟩
  · obtain ⟨fd, F⟩ := c.def_ 14 rfl
    exact ⟨_, fd, F, He.glo_ok X G (c.fact 14 (f := .glo "_law_draws") rfl)⟩
  · obtain ⟨fd, F⟩ := c.def_ 15 rfl
    exact ⟨_, fd, F, He.glo_ok X G (c.fact 15 (f := .glo "_law_row") rfl)⟩
  · obtain ⟨fd, F⟩ := c.def_ 16 rfl
    exact ⟨_, fd, F, He.glo_ok X G (c.fact 16 (f := .glo "_law_rows") rfl)⟩
  · obtain ⟨fd, F⟩ := c.def_ 17 rfl
    exact ⟨_, fd, F, He.glo_ok X G (c.fact 17 (f := .glo "_law_number") rfl)⟩
  · obtain ⟨fd, F⟩ := c.def_ 18 rfl
    exact ⟨_, fd, F, He.glo_ok X G (c.fact 18 (f := .glo "_law_numbers") rfl)⟩
  · obtain ⟨fd, F⟩ := c.def_ 19 rfl
    exact ⟨_, fd, F, He.glo_ok X G (c.fact 19 (f := .glo "_law_token") rfl)⟩
  · obtain ⟨fd, F⟩ := c.def_ 20 rfl
    exact ⟨_, fd, F, He.glo_ok X G (c.fact 20 (f := .glo "_law_parts") rfl)⟩
  · obtain ⟨fd, F⟩ := c.def_ 21 rfl
    exact ⟨_, fd, F, He.glo_ok X G (c.fact 21 (f := .glo "_law_joined") rfl)⟩
  · obtain ⟨fd, F⟩ := c.def_ 22 rfl
    exact ⟨_, fd, F, He.glo_ok X G (c.fact 22 (f := .glo "_law_lines") rfl)⟩
  · obtain ⟨fd, F⟩ := c.def_ 23 rfl
    exact ⟨_, fd, F, He.glo_ok X G (c.fact 23 (f := .glo "_law_first") rfl)⟩
  · obtain ⟨fd, F⟩ := c.def_ 24 rfl
    exact ⟨_, fd, F, He.glo_ok X G (c.fact 24 (f := .glo "_law_subject") rfl)⟩
  · obtain ⟨fd, F⟩ := c.def_ 25 rfl
    exact ⟨_, fd, F, He.glo_ok X G (c.fact 25 (f := .glo "_law_verdict") rfl)⟩
  · obtain ⟨fd, F⟩ := c.def_ 26 rfl
    exact ⟨_, fd, F, He.glo_ok X G (c.fact 26 (f := .glo "_law_odd") rfl)⟩
  · obtain ⟨fd, F⟩ := c.def_ 27 rfl
    exact ⟨_, fd, F, He.glo_ok X G (c.fact 27 (f := .glo "_law_spoilt") rfl)⟩
  · obtain ⟨fd, F⟩ := c.def_ 28 rfl
    exact ⟨_, fd, F, He.glo_ok X G (c.fact 28 (f := .glo "_law_refused") rfl)⟩
  · obtain ⟨fd, F⟩ := c.def_ 29 rfl
    exact ⟨_, fd, F, He.glo_ok X G (c.fact 29 (f := .glo "law") rfl)⟩
  · exact He.cls_ok (c.fact 46 (f := .cls "Paper") rfl)
  · exact He.noat_ok (c.fact 47 (f := .noat "Paper" "text") rfl)
  · exact He.noat_ok (c.fact 48 (f := .noat "Paper" "subject") rfl)
  · exact He.noat_ok (c.fact 49 (f := .noat "Paper" "verdict") rfl)
  · exact He.noat_ok (c.fact 50 (f := .noat "Paper" "tokens") rfl)
  · exact He.cls_ok (c.fact 54 (f := .cls "PaperReader") rfl)
  · exact He.noat_ok (c.fact 55 (f := .noat "PaperReader" "_lines") rfl)
  · exact He.noat_ok (c.fact 56 (f := .noat "PaperReader" "_taken") rfl)
  · obtain ⟨fd, F⟩ := c.def_ 30 rfl
    exact ⟨_, fd, F, He.mkr_ok (c.fact 51 (f := .mkr "Paper") rfl), He.glo_ok X G (c.fact 45 (f := .glo "Paper") rfl)⟩
  · obtain ⟨fd, F⟩ := c.def_ 31 rfl
    exact ⟨_, fd, F, He.meth_ok (c.fact 52 (f := .meth "Paper" "same") rfl)⟩
  · obtain ⟨fd, F⟩ := c.def_ 32 rfl
    exact ⟨_, fd, F, He.mkr_ok (c.fact 57 (f := .mkr "PaperReader") rfl), He.glo_ok X G (c.fact 53 (f := .glo "PaperReader") rfl)⟩
  · obtain ⟨fd, F⟩ := c.def_ 33 rfl
    exact ⟨_, fd, F, He.meth_ok (c.fact 58 (f := .meth "PaperReader" "is_done") rfl)⟩
  · obtain ⟨fd, F⟩ := c.def_ 34 rfl
    exact ⟨_, fd, F, He.meth_ok (c.fact 59 (f := .meth "PaperReader" "take") rfl)⟩
  · obtain ⟨fd, F⟩ := c.def_ 35 rfl
    exact ⟨_, fd, F, He.meth_ok (c.fact 60 (f := .meth "PaperReader" "take_lines") rfl)⟩
  · obtain ⟨t, e⟩ := He.str_ok X G (c.fact 30 (f := .str "DIGITS" "0123456789") rfl)
    exact ⟨_, e, t, rfl⟩
  · obtain ⟨t, e⟩ := He.int_ok X G (c.fact 31 (f := .int "MOST_DIGITS" 12) rfl)
    exact ⟨_, e, t, rfl⟩
  · exact He.glo_ok X G (c.fact 61 (f := .glo "WayError") rfl)
  · exact He.glo_ok X G (c.fact 62 (f := .glo "BadLine") rfl)
  · exact He.glo_ok X G (c.fact 63 (f := .glo "BadText") rfl)
  · exact He.glo_ok X G (c.fact 64 (f := .glo "BadProgram") rfl)
  · exact He.glo_ok X G (c.fact 65 (f := .glo "BadPaper") rfl)
  · exact He.glo_ok X G (c.fact 66 (f := .glo "TooLong") rfl)
  · exact He.glo_ok X G (c.fact 67 (f := .glo "TooWide") rfl)
  · exact He.glo_ok X G (c.fact 68 (f := .glo "BadPlace") rfl)
  · exact He.glo_ok X G (c.fact 69 (f := .glo "BadInput") rfl)
  · exact He.glo_ok X G (c.fact 70 (f := .glo "BadPair") rfl)
  · exact He.glo_ok X G (c.fact 71 (f := .glo "BadEdit") rfl)
  · exact WF.upsB_ok l1
  · exact WF.upsB_ok m1
  · exact WF.upsB_ok m2
  · exact WF.upsB_ok m3
  · exact WF.upsB_ok m4
  · exact WF.upsB_ok m5
  · exact WF.upsB_ok m6
  · exact WF.upsB_ok m7
  · exact WF.upsB_ok m8
  · exact WF.upsB_ok m9
  · exact WF.upsB_ok m10
  · exact WF.upsB_ok m11
  · exact WHS.badB_ok (He.glo_ok X G (c.fact 65 (f := .glo "BadPaper") rfl)) m12
  · exact c2.ini 0 rfl
  · exact He.free_ok X G (c.fact 32 (f := .free "ValueError") rfl)
  · exact He.free_ok X G (c.fact 33 (f := .free "abs") rfl)
  · exact He.free_ok X G (c.fact 34 (f := .free "bool") rfl)
  · exact He.free_ok X G (c.fact 35 (f := .free "int") rfl)
  · exact He.free_ok X G (c.fact 36 (f := .free "isinstance") rfl)
  · exact He.free_ok X G (c.fact 37 (f := .free "len") rfl)
  · exact He.free_ok X G (c.fact 38 (f := .free "list") rfl)
  · exact He.free_ok X G (c.fact 39 (f := .free "max") rfl)
  · exact He.free_ok X G (c.fact 40 (f := .free "range") rfl)
  · exact He.free_ok X G (c.fact 41 (f := .free "repr") rfl)
  · exact He.free_ok X G (c.fact 42 (f := .free "str") rfl)
  · exact He.free_ok X G (c.fact 43 (f := .free "super") rfl)
  · exact He.free_ok X G (c.fact 44 (f := .free "tuple") rfl)
theorem k_BadLine_init {P : Program} {w : World} {K : PySem.W.Frag} {mg : Str → Option Value} {base : Heap} (T : Tx K mg) (pf : WBX.PF P fileP) : ∃ fd, FnOk P w K mg base CX0 2 (ss_BadLine.fI K) fd ["self", "row"] (WBL.spBad K (He.ga K "BadLine")) ∧ Binds K fd ["self", "row"] [] :=
  WBX.bad_init (st := s_BadLine_init) T.q_BadLine pf rfl rfl rfl ⟨rfl, by decide +kernel, by decide +kernel, by decide +kernel, by decide +kernel, by decide +kernel, by decide +kernel, rfl, rfl⟩ ⟨_, rfl⟩ ⟨_, _, _, _, _, _, _, _, _, _, _, _, _, ⟨rfl, fun _ _ _ _ => rfl, fun _ _ _ _ => ⟨_, rfl⟩⟩⟩ T.z_super (fun _ _ _ _ _ _ _ us hl => match us, hl with | [_, _], _ => rfl)
def spLaw (K : PySem.W.Frag) : Sp := fun vs H Q _ => ∃ (a : Addr) (ns : List Int), vs = [.ref a] ∧ SqL K H a (ns.map V.int) ∧ ns.length ≤ 63 ∧ ∀ H', Q (.bl true) H'
end K30
namespace K30
open PySem PySem.Spec PyProof.Rows L2 Wy WN

-- WIDE
section
variable {P : Program} {w : World} {K : PySem.W.Frag} {mg : Str → Option Value} {base : Heap}
theorem k_law_cell (T : Tx K mg) : C8.Cal P w K mg base 1 "_law_cell" (spCellN K) [] := by
  refine cal_of (N := n_law_cell) T.d_law_cell sc_law_cell (fun _ _ F => F.bindsN fun _ _ _ _ _ _ us hl => match us, hl with | [_, _], _ => rfl) (fun vs H Q E h => ?_) (fun f cdv A outer s H vs Q E hr h => ?_)
  · obtain ⟨a, ns, k, rfl, _⟩ := h
    rfl
  · obtain ⟨a, ns, k, rfl, hS, q⟩ := h
    refine ⟨_, (pss_cons (ps_if (pt_cmpR op_gt (pe_callB (call_len2 : CallR _ _ (rLn K)) (by rfl) T.z_len (by decide +kernel) (pa_cons (pv 0) pa_nil)) pe_int (nomark _)) (pss_one (ps_ret (pe_ix (ix_seq : IxR _ (rIx K)) (pv 0) (pe_op op_mod (pe_callTy call_int2 (by rfl) T.z_int (by decide +kernel) (pa_cons (pv 1) pa_nil)) (pe_callB (call_len2 : CallR _ _ (rLn K)) (by rfl) T.z_len (by decide +kernel) (pa_cons (pv 0) pa_nil))) (fun _ _ => rfl)))) pss_nil) (pss_one (ps_ret pe_int))), ?_⟩
    walk_at "ss"
    refine b_lenL hS ?_
    walk_at "ss"
    refine iteD (fun e => ?_) (fun e => ?_)
    · rw [List.length_map] at e
      walk_at "ss"
      refine b_lenL hS ?_
      rw [List.length_map]
      refine o_modG e fun r r0 r1 => ?_
      refine ix_int hS r0 r1 fun x _ => ?_
      exact q x
    · walk_at "ss"
      exact q 0
theorem k_law_draws (T : Tx K mg) : C8.Cal P w K mg base 2 "_law_draws" (spDraws K) [] := by
  refine cal_of (N := n_law_draws) T.d_law_draws sc_law_draws (fun _ _ F => F.bindsN fun _ _ _ _ _ _ us hl => match us, hl with | [_, _, _], _ => rfl) (fun vs H Q E h => ?_) (fun f cdv A outer s H vs Q E hr h => ?_)
  · obtain ⟨a, b, ns, ss, k, rfl, _⟩ := h
    rfl
  · obtain ⟨a, b, ns, ss, k, rfl, hS, hB, hz, q⟩ := h
    refine ⟨_, (pss_cons (ps_asg (pe_lst (pa_cons pe_int (pa_cons pe_int (pa_cons pe_int (pa_cons pe_int (pa_cons pe_int (pa_cons pe_int (pa_cons pe_int (pa_cons pe_int pa_nil))))))))) (pg_name (i := 3) sc_law_draws.nd rfl (Or.inl rfl))) (pss_cons (ps_asg (pe_callB call_abs2 (by rfl) T.z_abs (by decide +kernel) (pa_cons (C8.pe_c (k_law_cell T) hr (by first | decide | omega) (by rfl) (pa_cons (pv 0) (pa_cons (pv 1) pa_nil))) pa_nil)) (pg_name (i := 4) sc_law_draws.nd rfl (Or.inl rfl))) (pss_cons (ps_asg pe_int (pg_name (i := 5) sc_law_draws.nd rfl (Or.inl rfl))) (C8.pss_cut (ps_if (pt_cmpR op_ge (pv 4) (pe_op op_pow pe_int pe_int) (nomark _)) (pss_one (ps_asg (pv 4) (pg_name (i := 5) sc_law_draws.nd rfl (Or.inl rfl)))) pss_nil) (pss_cons (ps_asg (pe_lst pa_nil) (pg_name (i := 6) sc_law_draws.nd rfl (Or.inl rfl))) (pss_cons (ps_for PassesOwn.never rfl (pi_range1 (by rfl) T.z_range (pa_cons (pe_callB (call_len2 : CallR _ _ (rLn K)) (by rfl) T.z_len (by decide +kernel) (pa_cons (pv 2) pa_nil)) pa_nil)) (pg_name (i := 7) sc_law_draws.nd rfl (Or.inl rfl)) (pss_one (ps_if (pt_cmpR op_gt (pv 5) pe_int (nomark _)) (pss_cons (ps_expr (pe_bm PySem.F.plainAttrs_list PySem.F.slot_list_append PySem.F.type_list_append mt_append (pv 6) (pa_cons (pe_op op_mod (pe_callTy call_int2 (by rfl) T.z_int (by decide +kernel) (pa_cons (pv 5) pa_nil)) (pe_ix (ix_seq : IxR _ (rIx K)) (pv 2) (pv 7) (fun _ _ => rfl))) pa_nil) : PE _ _ (tBM K _ _ _ _))) (pss_one (ps_asg (pe_op op_fdivW (pv 5) (pe_ix (ix_seq : IxR _ (rIx K)) (pv 2) (pv 7) (fun _ _ => rfl))) (pg_name (i := 5) sc_law_draws.nd rfl (Or.inl rfl))))) (pss_cons (ps_asg (pe_op op_mod (pe_callTy call_int2 (by rfl) T.z_int (by decide +kernel) (pa_cons (pe_op op_add3 (pe_op op_mul2 (pe_op op_add3 (pe_op op_add3 (pe_op op_add3 (pv 4) pe_int) (pe_op op_mul2 pe_int (pv 1))) (pv 7)) pe_int) (pe_op op_mul2 pe_int (pv 7))) pa_nil)) (pe_ix (ix_seq : IxR _ (rIx K)) (pv 3) (pe_op op_mod (pv 7) pe_int) (fun _ _ => rfl))) (pg_name (i := 8) sc_law_draws.nd rfl (Or.inl rfl))) (pss_cons (ps_asg (pe_op op_mod (pe_callTy call_int2 (by rfl) T.z_int (by decide +kernel) (pa_cons (pe_op op_add3 (pe_op op_add3 (pe_op op_mul2 (pv 8) (pv 8)) (pe_op op_mul2 pe_int (pv 7))) (pv 1)) pa_nil)) (pe_ix (ix_seq : IxR _ (rIx K)) (pv 3) (pe_op op_mod (pe_op op_add3 (pv 7) pe_int) pe_int) (fun _ _ => rfl))) (pg_name (i := 9) sc_law_draws.nd rfl (Or.inl rfl))) (pss_cons (ps_asg (pe_op op_mod (pe_callTy call_int2 (by rfl) T.z_int (by decide +kernel) (pa_cons (pe_op op_add3 (pe_op op_add3 (pe_op op_mul2 (pv 9) pe_int) (pe_op op_mul2 (pv 8) pe_int)) (pv 7)) pa_nil)) (pe_ix (ix_seq : IxR _ (rIx K)) (pv 3) (pe_op op_mod (pe_op op_add3 (pv 7) pe_int) pe_int) (fun _ _ => rfl))) (pg_name (i := 9) sc_law_draws.nd rfl (Or.inl rfl))) (pss_one (ps_expr (pe_bm PySem.F.plainAttrs_list PySem.F.slot_list_append PySem.F.type_list_append mt_append (pv 6) (pa_cons (pe_op op_mod (pe_callTy call_int2 (by rfl) T.z_int (by decide +kernel) (pa_cons (pe_op op_fdivW (pv 9) pe_int) pa_nil)) (pe_ix (ix_seq : IxR _ (rIx K)) (pv 2) (pv 7) (fun _ _ => rfl))) pa_nil) : PE _ _ (tBM K _ _ _ _)))))))))) (pss_one (ps_ret (pv 6))))))))), ?_⟩
    walk_at "ss"
    refine n_obj (lz (Nat.le_of_ble_eq_true rfl)) fun pr H1 np s1 e1 => ?_
    walk_at "ss"
    refine ⟨a, ns, k, rfl, s1.seq hS, fun cell => ?_⟩
    walk_at "ss"
    refine s_cut (fun σ H' => ∃ rest : Int, σ = [some (.ref a), some (.int k), some (.ref b), some (.ref pr), some (.int (if cell < 0 then -cell else cell)), some (.int rest), none, none, none, none] ∧ H1 = H') ?_ (fun σ H' p => ?_)
    · walk_at "ss"
      refine iteD (fun e => ?_) (fun e => ?_)
      · walk_at "ss"
        exact ⟨_, rfl, rfl⟩
      · walk_at "ss"
        exact ⟨_, rfl, rfl⟩
    obtain ⟨rest, rfl, rfl⟩ := p
    generalize (if cell < 0 then -cell else cell) = cell
    walk_at "ss"
    refine n_obj (lz (Nat.le_of_ble_eq_true rfl)) fun d H2 nd s2 e2 => ?_
    have hB2 := (s1.trans s2).seq hB
    walk_at "ss"
    refine b_lenL hB2 ?_
    have hl := hz.1
    walk_at "ss"
    rw [List.length_map]
    refine k_r1 (by omega) (by omega) ?_
    refine f_range (fun i σ H' => ∃ x y z, ∃ rest : Int, ∃ ds : List Int, σ = [some (.ref a), some (.int k), some (.ref b), some (.ref pr), some (.int cell), some (.int rest), some (.ref d), x, y, z] ∧ Same H1 H' ∧ H' d = some (.lst (ds.map V.int)) ∧ Dr ds (ss.take i))
      ⟨_, _, _, _, [], rfl, s2, e2, .nil⟩ (fun i σ H3 hi p => ?_) (fun σ H3 p => ?_)
    · obtain ⟨x, y, z, rest, ds, rfl, s3, e3, hd⟩ := p
      have hi : i < ss.length := hi
      have gi := List.getElem?_eq_getElem hi
      obtain ⟨z0, z1⟩ := hz.2 _ (List.getElem_mem hi)
      have hB3 := (s1.trans s3).seq hB
      have ep := s3 _ _ e1
      have ln : (ds.map V.int).length < sizeLine := by
        have := hd.len
        rw [List.length_take] at this
        exact small1000' (by rw [List.length_map]; omega)
      have snoc : ∀ d' : Int, 0 ≤ d' → d' < ss[i] → Dr (ds ++ [d']) (ss.take (i + 1)) := fun d' h0 h1 => by
        rw [List.take_succ, gi]
        exact hd.snoc h0 h1
      have gg : (ss.map V.int)[i]? = some (.int ss[i]) := by rw [List.getElem?_map, gi]; rfl
      rw [Int.zero_add]
      walk_at "ss"
      refine iteD (fun e => ?_) (fun e => ?_)
      · walk_at "ss"
        refine m_ty (lst_of e3) ?_
        walk_at "ss"
        refine o_ixL hB3 (atI_nat gg) ?_
        refine o_modG z0 fun r r0 r1 => ?_
        walk_at "ss"
        refine m_app e3 ln fun H4 c4 e4 => ?_
        walk_at "ss"
        refine o_ixL ((s1.trans (c4.same s3 nd)).seq hB) (atI_nat gg) ?_
        walk_at "ss"
        exact ⟨_, _, _, _, ds ++ [r], rfl, c4.same s3 nd, by rw [e4, List.map_append]; rfl, snoc r r0 r1⟩
      · walk_at "ss"
        refine ix_pr ep (Int.emod_nonneg _ (by omega)) (Int.emod_lt_of_pos _ (by omega)) fun p p0 p1 => ?_
        refine o_modG p0 fun f f0 f1 => ?_
        walk_at "ss"
        refine ix_pr ep (Int.emod_nonneg _ (by omega)) (Int.emod_lt_of_pos _ (by omega)) fun p p2 p3 => ?_
        refine o_modG p2 fun m m0 m1 => ?_
        walk_at "ss"
        refine ix_pr ep (Int.emod_nonneg _ (by omega)) (Int.emod_lt_of_pos _ (by omega)) fun p p2 p3 => ?_
        refine o_modG p2 fun m m0 m1 => ?_
        walk_at "ss"
        refine m_ty (lst_of e3) ?_
        walk_at "ss"
        refine o_ixL hB3 (atI_nat gg) ?_
        refine o_modG z0 fun r r0 r1 => ?_
        walk_at "ss"
        refine m_app e3 ln fun H4 c4 e4 => ?_
        exact ⟨_, _, _, _, ds ++ [r], rfl, c4.same s3 nd, by rw [e4, List.map_append]; rfl, snoc r r0 r1⟩
    · obtain ⟨x, y, z, rest, ds, rfl, s3, e3, hd⟩ := p
      have hd : Dr ds (ss.take ss.length) := hd
      rw [List.take_length] at hd
      walk_at "ss"
      exact q d H3 ds (s1.trans s3) (s1.free nd) e3 hd
end
end K30
-- WIDE
namespace K30
open PySem PySem.Spec PyProof.Rows L2 Wy WN WQ WS WC WE WM
open WR (numW)

section
variable {P : Program} {w : World} {K : PySem.W.Frag} {mg : Str → Option Value} {base : Heap}
def spRunEnd : Sp := fun vs H Q _ => ∃ (z p : Str) (i : Nat), vs = [.str z, .int i, .str p] ∧ z.length ≤ 1000000 ∧ i ≤ z.length ∧ Q (.int (runEnd (tl z) (tl p) i : Nat)) H
theorem k_run_end (T : Tx K mg) : C8.Cal P w K mg base 1 "_run_end" spRunEnd [] := by
  refine cal_of (N := n_run_end) T.d_run_end sc_run_end (fun _ _ F => F.bindsN fun _ _ _ _ _ _ us hl => match us, hl with | [_, _, _], _ => rfl) (fun vs H Q E h => ?_) (fun f cdv A outer s H vs Q E hr h => ?_)
  · obtain ⟨z, p, i, rfl, _⟩ := h
    rfl
  · obtain ⟨z, p, i, rfl, hz, hi, q⟩ := h
    have hz2 : z.length ≤ sizeLine := Nat.le_of_lt (Nat.lt_of_le_of_lt hz (by decide))
    refine ⟨_, (pss_cons (ps_while PassesOwn.never (PW.pt (pw_and (pt_cmpR op_lt (pv 1) (pe_callB (call_len2 : CallR _ _ (rLn K)) (by rfl) T.z_len (by decide +kernel) (pa_cons (pv 0) pa_nil)) (nomark _)) (pw_and1 (pt_cmpR (op_in2 : OpR _ _ (rIn2 K)) (pe_ix (ix_seq : IxR _ (rIx K)) (pv 0) (pv 1) (fun _ _ => rfl)) (pv 2) (by rfl))))) (pss_one (ps_aug (i := 1) sc_run_end.nd rfl (Or.inl rfl) pe_int ip_add))) (pss_one (ps_ret (pv 1)))), ?_⟩
    walk_at "ss"
    refine s_while (fun m σ H' => H' = H ∧ ∃ j : Nat, m = z.length - j ∧ j ≤ z.length ∧ runEnd (tl z) (tl p) j = runEnd (tl z) (tl p) i ∧ σ = [some (.str z), some (.int j), some (.str p)]) (z.length - i) ⟨rfl, i, rfl, hi, rfl, rfl⟩ fun m σ H' hW => ?_
    obtain ⟨rfl, j, rfl, hj, er, rfl⟩ := hW
    walk_at "ss"
    refine b_lenS hz2 ?_
    walk_at "ss"
    refine ite2 (fun e => ?_) (fun e => ?_)
    · have e := of_decide_eq_true e
      obtain ⟨c, g1, g2⟩ := atI_cps (z := z) (i := j) (by omega)
      walk_at "ss"
      refine o_ixS hz2 g2 ?_
      walk_at "ss"
      refine ite2 (fun e2 => ?_) (fun e2 => ?_)
      · have e2 := of_decide_eq_true e2
        refine k_while ?_
        walk_at "ss"
        exact ⟨_, by omega, rfl, j + 1, rfl, by omega, by rw [← er]; exact (runEnd_yes g1 e2).symm, rfl⟩
      · have e2 := of_decide_eq_false (Bool.eq_false_iff.mpr e2)
        walk_at "ss"
        rw [← er, runEnd_no g1 e2] at q
        exact q
    · have e := of_decide_eq_false (Bool.eq_false_iff.mpr e)
      refine iteF ?_
      walk_at "ss"
      rw [← er, runEnd_out (by rw [← str_len]; omega)] at q
      exact q
def spNum : Sp := fun vs H Q _ => ∃ (z : Str) (m : Nat), vs = [.str z, .int (m : Int)] ∧ m ≤ 100 ∧ z.length ≤ 1000000 ∧ ∀ H', Same H H' → Q (.bl (numW m z)) H'
theorem k_is_numeral (T : Tx K mg) : C8.Cal P w K mg base 2 "is_numeral" spNum [] := by
  refine cal_of (N := n_is_numeral) T.d_is_numeral sc_is_numeral (fun _ _ F => F.bindsN fun _ _ _ _ _ _ us hl => match us, hl with | [_, _], _ => rfl) (fun vs H Q E h => ?_) (fun f cdv A outer s H vs Q E hr h => ?_)
  · obtain ⟨z, m, rfl, _⟩ := h
    rfl
  · obtain ⟨z, m, rfl, hm, hz, q⟩ := h
    have hz2 : z.length ≤ sizeLine := Nat.le_of_lt (Nat.lt_of_le_of_lt hz (by decide))
    refine ⟨_, (pss_cons (ps_if (pt_not (pt_chain op_le op_le pe_int (pe_callB (call_len2 : CallR _ _ (rLn K)) (by rfl) T.z_len (by decide +kernel) (pa_cons (pv 0) pa_nil)) (pv 1))) (pss_one (ps_ret pe_bl)) pss_nil) (pss_cons (ps_if (pt_cmpR (op_eq2 hr.units : OpR _ _ (rEq2 K)) (pe_ix (ix_seq : IxR _ (rIx K)) (pv 0) pe_int (fun _ _ => rfl)) pe_str (nomark _)) (pss_one (ps_ret (pe_cmpR (op_eq2 hr.units : OpR _ _ (rEq2 K)) (pv 0) pe_str (nomark _)))) pss_nil) (pss_one (ps_ret (pe_cmpR (op_eq2 hr.units : OpR _ _ (rEq2 K)) (C8.pe_c (k_run_end T) hr (by first | decide | omega) (by rfl) (pa_cons (pv 0) (pa_cons pe_int (pa_cons (C8.pe_gc (by rfl) T.g_DIGITS) pa_nil)))) (pe_callB (call_len2 : CallR _ _ (rLn K)) (by rfl) T.z_len (by decide +kernel) (pa_cons (pv 0) pa_nil)) (nomark _)))))), ?_⟩
    unfold numW at q
    walk_at "ss"
    refine b_lenS hz2 ?_
    walk_at "ss"
    refine ite2 (fun e => ?_) (fun e => ?_)
    · have e := of_decide_eq_true e
      rw [decide_eq_true (show 1 ≤ z.length by omega)] at q
      walk_at "ss"
      by_cases e2 : (z.length : Int) ≤ m
      · rw [decide_eq_true e2]
        rw [decide_eq_true (show z.length ≤ m by omega)] at q
        refine iteF ?_
        walk_at "ss"
        obtain ⟨c, g1, g2⟩ := atI_cps (z := z) (i := 0) (by omega)
        refine o_ixS hz2 g2 ?_
        walk_at "ss"
        refine o_eqS rfl ?_
        walk_at "ss"
        refine ite2 (fun e => ?_) (fun e => ?_)
        · have ec : c = 48 := (sign_eq (y := ("0" : Str)) (by decide +kernel)).mp e
          subst ec
          walk_at "ss"
          refine o_eqS rfl ?_
          have e4 : decide (V.str z = V.str ("0" : Str)) = (decide (∀ c ∈ tl z, c ∈ tl DIG) && (decide (z.length = 1) || !decide ((tl z)[0]? = some 48))) := by
            by_cases h1 : z.length = 1
            · have ez : z = ("0" : Str) := str_ext (by
                rw [str_len] at h1
                obtain ⟨x, hx⟩ := List.length_eq_one_iff.mp h1
                rw [hx] at g1 ⊢
                have : x = 48 := by simpa using g1
                rw [this]
                decide +kernel)
              rw [ez]
              decide +kernel
            · rw [decide_eq_false (show ¬ V.str z = V.str ("0" : Str) from fun e => h1 (by rw [V.str.inj e]; decide +kernel)), decide_eq_false h1, g1]
              simp
          rw [e4]
          exact q H (Same.refl H)
        · have ec : ¬ c = 48 := fun z => e ((sign_eq (y := ("0" : Str)) (by decide +kernel)).mpr z)
          walk_at "ss"
          refine ⟨z, DIG, 0, rfl, hz, Nat.zero_le _, ?_⟩
          walk_at "ss"
          refine b_lenS hz2 ?_
          refine o_eqS rfl ?_
          walk_at "ss"
          have e4 : decide (V.int ((runEnd (tl z) (tl DIG) 0 : Nat) : Int) = V.int (z.length : Int)) = decide (∀ c ∈ tl z, c ∈ tl DIG) := by
            rw [decide_eq_decide, ← runEnd_all, ← str_len]
            exact ⟨fun e => by have := V.int.inj e; omega, fun e => by rw [e]⟩
          rw [e4]
          rw [g1, show decide (some c = some 48) = false from decide_eq_false (fun e => ec (Option.some.inj e))] at q
          simpa using q H (Same.refl H)
      · rw [decide_eq_false e2]
        rw [decide_eq_false (show ¬ z.length ≤ m by omega)] at q
        refine iteT ?_
        walk_at "ss"
        simpa using q H (Same.refl H)
    · have e := of_decide_eq_false (Bool.eq_false_iff.mpr e)
      rw [decide_eq_false (show ¬ 1 ≤ z.length by omega)] at q
      walk_at "ss"
      refine iteT ?_
      walk_at "ss"
      exact q H (Same.refl H)
end
end K30
-- WIDE
namespace K30
open PySem PySem.Spec PyProof.Rows L2 Wy WN WQ WS WC WE WM W3 W4 WR WXD W30

theorem ok_row {z : Str} (h : Row z) : PyData.strOk z = true := ok_of fun c hc => by
  have := h.a c hc
  omega
theorem eqv_none : ∀ d : PyData, PyData.eqv d .none = isN d
  | .none => by decide +kernel
  | .bool b => by cases b <;> decide +kernel
  | .int i => rfl
  | .str s => rfl
  | .list l => rfl
  | .tuple l => rfl
  | .dict l => rfl
section
variable {P : Program} {w : World} {K : PySem.W.Frag} {mg : Str → Option Value} {base : Heap}
def spNumber : Sp := fun vs H Q _ => ∃ z : Str, vs = [.str z] ∧ Row z ∧ ∀ H', Same H H' → Q (iV (nmO z)) H'
theorem k_number (T : Tx K mg) : C8.Cal P w K mg base 3 "_number" spNumber [] := by
  refine cal_of (N := n_number) T.d_number sc_number (fun _ _ F => F.bindsN fun _ _ _ _ _ _ us hl => match us, hl with | [_], _ => rfl) (fun vs H Q E h => ?_) (fun f cdv A outer s H vs Q E hr h => ?_)
  · obtain ⟨n, rfl, _⟩ := h
    rfl
  · obtain ⟨z, rfl, hz, q⟩ := h
    refine ⟨_, (pss_one (ps_ret (pe_ifExp (pt_tr (C8.pe_c (k_is_numeral T) hr (by first | decide | omega) (by rfl) (pa_cons (pv 0) (pa_cons (C8.pe_gc (by rfl) T.g_MOST_DIGITS) pa_nil))) : PT _ _ (tTr K _)) (pe_callTy call_int2 (by rfl) T.z_int (by decide +kernel) (pa_cons (pv 0) pa_nil)) pe_non))), ?_⟩
    walk_at "xx"
    refine ⟨z, 12, rfl, by decide, by have := hz.l; omega, fun H1 s1 => ?_⟩
    unfold nmO at q
    by_cases c : numW 12 z = true
    · obtain ⟨e1, e2⟩ := nm_int c
      rw [if_pos c] at q
      rw [c]
      walk_at "xx"
      refine b_intS e1 e2 ?_
      exact q H1 s1
    · rw [if_neg c] at q
      rw [Bool.eq_false_iff.mpr c]
      walk_at "xx"
      exact q H1 s1
def spSigned : Sp := fun vs H Q _ => ∃ z : Str, vs = [.str z] ∧ Row z ∧ ∀ H', Same H H' → Q (iV (sgO z)) H'
theorem tl_cut (z : Str) (k : Nat) : tl (cutS z (some (k : Int)) none) = (tl z).drop k := by
  have h1 : (tl z).length = z.length := (str_len z).symm
  have e1 : HT.sIx z.length 0 (some (k : Int)) = min k z.length := HT.sIx_nat _ _ _
  have e2 : HT.sIx z.length z.length none = z.length := rfl
  show ((z.cps.toList.drop (HT.sIx z.length 0 (some (k : Int)))).take (HT.sIx z.length z.length none - HT.sIx z.length 0 (some (k : Int)))).toArray.toList = _
  rw [e1, e2]
  show ((tl z).drop (min k z.length)).take (z.length - min k z.length) = (tl z).drop k
  rw [List.take_of_length_le (by rw [List.length_drop, h1]; exact Nat.le_refl _)]
  by_cases c : k ≤ z.length
  · rw [Nat.min_eq_left c]
  · rw [Nat.min_eq_right (by omega), List.drop_eq_nil_of_le (by omega), List.drop_eq_nil_of_le (by omega)]
theorem cut_row {z : Str} (k : Nat) (h : Row z) : Row (cutS z (some (k : Int)) none) := by
  have e : tl (cutS z (some (k : Int)) none) = (tl z).drop k := tl_cut z k
  refine ⟨?_, fun c hc => ?_⟩
  · rw [str_len]
    show (tl (cutS z (some (k : Int)) none)).length ≤ 2000
    have h1 : (tl z).length = z.length := (str_len z).symm
    have := h.l
    rw [e, List.length_drop]
    omega
  · rw [e] at hc
    exact h.a c (List.mem_of_mem_drop hc)
theorem k_signed_number (T : Tx K mg) : C8.Cal P w K mg base 4 "_signed_number" spSigned [] := by
  refine cal_of (N := n_signed_number) T.d_signed_number sc_signed_number (fun _ _ F => F.bindsN fun _ _ _ _ _ _ us hl => match us, hl with | [_], _ => rfl) (fun vs H Q E h => ?_) (fun f cdv A outer s H vs Q E hr h => ?_)
  · obtain ⟨n, rfl, _⟩ := h
    rfl
  · obtain ⟨z, rfl, hz, q⟩ := h
    refine ⟨_, (pss_cons (ps_if (pt_not (pt_tr (WC.pe_bmK (K := K) PySem.F.plainAttrs_str PySem.F.slot_str_startswith PySem.F.type_str_startswith (WV.mt_starts : MtR _ _ WV.rStarts) (pv 0) (pa_cons pe_str pa_nil)) : PT _ _ (tTr K _))) (pss_one (ps_ret (C8.pe_c (k_number T) hr (by first | decide | omega) (by rfl) (pa_cons (pv 0) pa_nil)))) pss_nil) (pss_cons (ps_asg (C8.pe_c (k_number T) hr (by first | decide | omega) (by rfl) (pa_cons (pe_slice (sl_2 : SlR _ (rSl2 K)) (pv 0) (po_some pe_int) po_none) pa_nil)) (pg_name (i := 1) sc_signed_number.nd rfl (Or.inl rfl))) (pss_one (ps_ret (pe_ifExp (PW.pt (pw_or (pt_cmpR op_isN2 (pv 1) pe_non (nomark _)) (pw_or1 (pt_cmpR (op_eq2 hr.units : OpR _ _ (rEq2 K)) (pv 1) pe_int (nomark _))))) pe_non (pe_un un_neg (pv 1))))))), ?_⟩
    unfold sgO at q
    walk_at "xx"
    refine ⟨rfl, ?_⟩
    walk_at "xx"
    refine WV.m_starts ?_
    cases c : Txt.startswith z "-" with
    | false =>
      rw [c] at q
      walk_at "xx"
      exact ⟨z, rfl, hz, q⟩
    | true =>
      rw [c, if_pos rfl] at q
      walk_at "xx"
      refine l_S (by have := hz.l; rw [sizeLine_eq]; omega) ?_
      walk_at "xx"
      refine ⟨_, rfl, cut_row 1 hz, fun H1 s1 => ?_⟩
      cases e : nmO (cutS z (some 1) none) with
      | none =>
        rw [e] at q
        show _
        unfold iV
        walk_at "xx"
        exact q H1 s1
      | some n =>
        rw [e] at q
        have q : ∀ H', Same H H' → Q (iV (if n = 0 then none else some (-n))) H' := q
        show _
        unfold iV
        walk_at "xx"
        refine iteD (fun z0 => ?_) (fun z0 => ?_)
        · have z0 : V.int n = V.int 0 := z0
          injection z0 with z0
          rw [if_pos z0] at q
          walk_at "xx"
          exact q H1 s1
        · have z0 : ¬ n = 0 := fun z => z0 (by rw [z])
          rw [if_neg z0] at q
          walk_at "xx"
          exact q H1 s1
/-- what stands in a list of numbers -/
theorem sh_data {ds : List PyData} {n : Nat} (hn : n < 64) (h : ∀ d ∈ ds, d.canLay0 = true ∧ d.depth ≤ n) : SeqAt.shaped (.list ds) = true := by
  have := shL (fun d : PyData => d) ds n hn h
  rwa [List.map_id'] at this
theorem any_isN (ds : List PyData) : ds.any (fun z => PyData.eqv z .none) = ds.any isN := by
  rw [show (fun z => PyData.eqv z .none) = isN from funext eqv_none]
theorem lay_iD (o : Option Int) : (iD o).canLay0 = true ∧ (iD o).depth ≤ 0 := by
  cases o with
  | none => exact ⟨by decide +kernel, by decide +kernel⟩
  | some i => exact lay_int i
def spCommas (K : PySem.W.Frag) : Sp := fun vs H Q _ => ∃ z : Str, vs = [.str z] ∧ Row z ∧ ∀ v H', Same H H' → Tp H' v (cmO z) → Q v H'
theorem k_numbers_between_commas (T : Tx K mg) : C8.Cal P w K mg base 4 "_numbers_between_commas" (spCommas K) [] := by
  refine cal_of (N := n_numbers_between_commas) T.d_numbers_between_commas sc_numbers_between_commas (fun _ _ F => F.bindsN fun _ _ _ _ _ _ us hl => match us, hl with | [_], _ => rfl) (fun vs H Q E h => ?_) (fun f cdv A outer s H vs Q E hr h => ?_)
  · obtain ⟨n, rfl, _⟩ := h
    rfl
  · obtain ⟨z, rfl, hz, q⟩ := h
    refine ⟨_, (pss_cons (ps_setLc (i := 1) (own := [("each", 2)]) (g := gName 2) (tt := tYes) (by rfl) sc_numbers_between_commas.nd rfl rfl (sw_true rfl rfl rfl (by decide +kernel)) (pi_list (WC.pe_bmK (K := K) PySem.F.plainAttrs_str PySem.F.slot_str_split PySem.F.type_str_split (WV.mt_split1 : MtR _ _ WV.rSplit1) (pv 0) (pa_cons pe_str pa_nil)) : PI _ _ _ (iList K _)) (blkOk_by (own := [("each", 2)]) (N := n_numbers_between_commas) (sc := defScope s_numbers_between_commas) (by decide +kernel)) (fun _ _ _ _ _ => pg_name (i := 2) sc_numbers_between_commas.nd rfl (Or.inl rfl)) (fun _ _ _ _ _ => pts_nil) (fun _ _ _ _ _ => (C8.pe_c (k_number T) hr (by first | decide | omega) (by rfl) (pa_cons (pv 2) pa_nil)))) (pss_one (ps_ret (pe_ifExp (pt_cmpR (op_inD (WP.room65 hr) : OpR _ _ (rInD K)) pe_non (pv 1) (by rfl)) pe_non (pe_callTy (W6.call_tup2 : CallR _ _ (W6.rTup K)) (by rfl) T.z_tuple (by decide +kernel) (pa_cons (pv 1) pa_nil)))))), ?_⟩
    obtain ⟨p0, ps0, es, hrow, hmany⟩ := split_row (y := CM) (s := 44) hz (by decide +kernel) (by decide +kernel)
    unfold cmO at q
    rw [es] at q
    generalize hps : p0 :: ps0 = ps at es hrow hmany q
    walk_at "xx"
    refine ⟨rfl, ?_⟩
    walk_at "xx"
    refine WV.m_split (by decide +kernel) (by have := hz.l; rw [sizeLine_eq]; omega) fun p H1 np s1 e1 => ?_
    rw [es] at e1
    refine k_l (lst_of e1) ?_
    refine c_sel (p := fun _ => true) (F := PyData.str) (G := fun x : Str => iD (nmO x)) (.inl ⟨rfl, lst_of e1⟩) (strs_tp ps) (by omega) (fun x => rfl) (fun x u H2 N hx t s2 hN => ?_) (fun x u H2 N hx hp t s2 hN => ?_) (fun D H2 ys nD s2 e2 t => ?_)
    · walk_at "xx"
      exact hN H2 (Same.refl _)
    · cases t
      walk_at "xx"
      exact ⟨x, rfl, (hrow x hx).1, fun H3 s3 => hN _ H3 s3 (tp_iV _)⟩
    · have e : ps.filter (fun _ => true) = ps := List.filter_eq_self.mpr fun _ _ => rfl
      rw [e] at t
      walk_at "xx"
      refine ⟨.none, _, .non, .lst (lst_of e2) t.dp, by decide +kernel, shL _ ps 0 (by decide) fun x _ => lay_iD _, ?_⟩
      rw [any_isN]
      cases c : (ps.map fun x => iD (nmO x)).any isN with
      | true =>
        rw [c, if_pos rfl] at q
        walk_at "xx"
        exact q _ H2 (s1.trans s2) .non
      | false =>
        rw [c, if_neg Bool.false_ne_true] at q
        walk_at "xx"
        refine W6.b_tup (lst_of e2) fun p2 H3 n3 s3 e3 => ?_
        exact q _ H3 (s1.trans (s2.trans s3)) (.tup e3 (t.tk s3.tk))
end
end K30
-- WIDE
namespace K30
open PySem PySem.Spec PyProof.Rows L2 Wy WN WQ WS WC WE WM W3 W4 WR WXD W30

section
variable {P : Program} {w : World} {K : PySem.W.Frag} {mg : Str → Option Value} {base : Heap}
def spWith (K : PySem.W.Frag) : Sp := fun vs H Q _ => ∃ (z p0 : Str) (pa na : Addr) (us ws : List V) (ds : List PyData), vs = [.str z, .ref pa, .ref na] ∧ H pa = some (.lst (.str p0 :: us)) ∧ H na = some (.lst ws) ∧ TpAll H ws ds ∧ SeqAt.shaped (.list ds) = true ∧
  ∀ v H', Same H H' → Tp H' v (wnO z p0 ds) → Q v H'
theorem k_with_numbers (T : Tx K mg) : C8.Cal P w K mg base 1 "_with_numbers" (spWith K) [] := by
  refine cal_of (N := n_with_numbers) T.d_with_numbers sc_with_numbers (fun _ _ F => F.bindsN fun _ _ _ _ _ _ us hl => match us, hl with | [_, _, _], _ => rfl) (fun vs H Q E h => ?_) (fun f cdv A outer s H vs Q E hr h => ?_)
  · obtain ⟨_, _, _, _, _, _, _, rfl, _⟩ := h
    rfl
  · obtain ⟨z, p0, pa, na, us, ws, ds, rfl, ep, en, td, hs, q⟩ := h
    refine ⟨_, (pss_cons (ps_if (PW.pt (pw_or (pt_cmpR (op_ne2 hr.units : OpR _ _ (rNe2 K)) (pe_ix (ix_seq : IxR _ (rIx K)) (pv 1) pe_int (fun _ _ => rfl)) (pv 0) (nomark _)) (pw_or (pt_not (pt_tr (pv 2) : PT _ _ (tTr K _))) (pw_or1 (pt_cmpR (op_inD (WP.room65 hr) : OpR _ _ (rInD K)) pe_non (pv 2) (by rfl)))))) (pss_one (ps_ret pe_non)) pss_nil) (pss_one (ps_ret (pe_tup (pa_cons (pv 0) (pa_cons (pe_callTy (W6.call_tup2 : CallR _ _ (W6.rTup K)) (by rfl) T.z_tuple (by decide +kernel) (pa_cons (pv 2) pa_nil)) pa_nil)))))), ?_⟩
    unfold wnO at q
    walk_at "xx"
    refine o_ixL (lst_of ep) (v := .str p0) (atI_nat (j := 0) rfl) ?_
    walk_at "xx"
    cases c1 : decide (p0 = z) with
    | false =>
      rw [c1] at q
      rw [decide_eq_false (fun e : V.str p0 = V.str z => by injection e with e; exact absurd e (of_decide_eq_false c1))]
      walk_at "xx"
      exact q _ H (Same.refl _) .non
    | true =>
      have c1' := of_decide_eq_true c1
      subst c1'
      rw [c1, Bool.true_and] at q
      rw [decide_eq_true rfl]
      walk_at "xx"
      refine k_trL (lst_of en) ?_
      have hl := td.length
      cases c2 : ws.isEmpty with
      | true =>
        have e : ds.isEmpty = true := by
          cases ds with
          | nil => rfl
          | cons d r =>
            cases td
            cases c2
        rw [e] at q
        walk_at "xx"
        exact q _ H (Same.refl _) .non
      | false =>
        have e : ds.isEmpty = false := by
          cases ds with
          | nil =>
            cases td
            cases c2
          | cons d r => rfl
        rw [e] at q
        walk_at "xx"
        refine ⟨.none, ds, .non, .lst (lst_of en) td.dp, by decide +kernel, hs, ?_⟩
        rw [any_isN]
        cases c3 : ds.any isN with
        | true =>
          rw [c3] at q
          walk_at "xx"
          exact q _ H (Same.refl _) .non
        | false =>
          rw [c3] at q
          walk_at "xx"
          refine W6.b_tup (lst_of en) fun p2 H3 n3 s3 e3 => ?_
          walk_at "xx"
          rename_i p4 H4 n4 s4 e4
          exact q _ H4 (s3.trans s4) (.tup e4 (.cons (.str _) (.cons (.tup (s4 _ _ e3) (td.tk (s3.trans s4).tk)) .nil)))
def spSize : Sp := fun vs H Q _ => ∃ (x z : Str), vs = [.str x, .str z] ∧ Row z ∧ ∀ H', Same H H' → Q (iV (szO x z)) H'
theorem k_size_behind (T : Tx K mg) : C8.Cal P w K mg base 4 "_size_behind" spSize [] := by
  refine cal_of (N := n_size_behind) T.d_size_behind sc_size_behind (fun _ _ F => F.bindsN fun _ _ _ _ _ _ us hl => match us, hl with | [_, _], _ => rfl) (fun vs H Q E h => ?_) (fun f cdv A outer s H vs Q E hr h => ?_)
  · obtain ⟨_, _, rfl, _⟩ := h
    rfl
  · obtain ⟨x, z, rfl, hz, q⟩ := h
    refine ⟨_, (pss_cons (ps_asg (WC.pe_bmK (K := K) PySem.F.plainAttrs_str PySem.F.slot_str_split PySem.F.type_str_split (WV.mt_split1 : MtR _ _ WV.rSplit1) (pv 1) (pa_cons pe_str pa_nil)) (pg_name (i := 2) sc_size_behind.nd rfl (Or.inl rfl))) (pss_cons (ps_asg (C8.pe_c (k_number T) hr (by first | decide | omega) (by rfl) (pa_cons (pe_ix (ix_seq : IxR _ (rIx K)) (pv 2) (pe_un un_neg pe_int) (fun _ _ => rfl)) pa_nil)) (pg_name (i := 3) sc_size_behind.nd rfl (Or.inl rfl))) (pss_one (ps_ret (pe_ifExp (PW.pt (pw_or (pt_cmpR (op_ne2 hr.units : OpR _ _ (rNe2 K)) (pe_callB (call_len2 : CallR _ _ (rLn K)) (by rfl) T.z_len (by decide +kernel) (pa_cons (pv 2) pa_nil)) pe_int (nomark _)) (pw_or (pt_cmpR (op_ne2 hr.units : OpR _ _ (rNe2 K)) (pe_ix (ix_seq : IxR _ (rIx K)) (pv 2) pe_int (fun _ _ => rfl)) (pv 0) (nomark _)) (pw_or1 (pt_cmpR (op_eq2 hr.units : OpR _ _ (rEq2 K)) (pv 3) pe_int (nomark _)))))) pe_non (pv 3)))))), ?_⟩
    obtain ⟨p0, ps, es, hrow, hmany⟩ := split_row (y := SP) (s := 32) hz (by decide +kernel) (by decide +kernel)
    unfold szO at q
    rw [es] at q
    walk_at "xx"
    refine ⟨rfl, ?_⟩
    walk_at "xx"
    refine WV.m_split (by decide +kernel) (by have := hz.l; rw [sizeLine_eq]; omega) fun p H1 np s1 e1 => ?_
    rw [es] at e1
    have last : ∃ l, atI ((p0 :: ps).map V.str) (-1) = some (.str l) ∧ l ∈ p0 :: ps ∧ ∀ p1, ps = [p1] → l = p1 := by
      refine ⟨(p0 :: ps).getLast (List.cons_ne_nil _ _), ?_, List.getLast_mem _, fun p1 e => by subst e; rfl⟩
      have e : (p0 :: ps).map V.str = (p0 :: ps).dropLast.map V.str ++ [.str ((p0 :: ps).getLast (List.cons_ne_nil _ _))] := by
        conv => lhs; rw [← List.dropLast_concat_getLast (List.cons_ne_nil p0 ps)]
        rw [List.map_append]
        rfl
      rw [e]
      exact atI_last _ _
    obtain ⟨l, hl, hm, hlast⟩ := last
    walk_at "xx"
    refine o_ixL (lst_of e1) hl ?_
    walk_at "xx"
    refine ⟨l, rfl, (hrow l hm).1, fun H2 s2 => ?_⟩
    have e2 := s2 _ _ e1
    walk_at "xx"
    refine b_lenL (lst_of e2) ?_
    walk_at "xx"
    refine iteNI (fun c => ?_) (fun c => ?_)
    · walk_at "xx"
      match ps, q, c with
      | [], q, _ => exact q H2 (s1.trans s2)
      | [p1], q, c => exact absurd rfl c
      | p1 :: p2 :: r, q, _ => exact q H2 (s1.trans s2)
    · obtain ⟨p1, rfl⟩ : ∃ p1, ps = [p1] := by
        match ps, c with
        | [p1], _ => exact ⟨p1, rfl⟩
        | [], c => exact absurd (show ((1 : Nat) : Int) = 2 from c) (by decide)
        | p1 :: p2 :: r, c => exact absurd c (by rw [List.length_map, List.length_cons, List.length_cons, List.length_cons]; omega)
      have hl1 := hlast p1 rfl
      subst hl1
      have q : ∀ H', Same H H' → Q (iV (if p0 = x then (match nmO l with | none => none | some n => if n = 0 then none else some n) else none)) H' := q
      walk_at "xx"
      refine iteND (fun c0 => ?_) (fun c0 => ?_)
      · rw [if_neg (fun e => c0 (by rw [e]))] at q
        walk_at "xx"
        exact q H2 (s1.trans s2)
      · have c0 : V.str p0 = V.str x := c0
        injection c0 with c0
        rw [if_pos c0] at q
        walk_at "xx"
        cases e : nmO l with
        | none =>
          rw [e] at q
          show _
          unfold iV
          walk_at "xx"
          exact q H2 (s1.trans s2)
        | some n =>
          rw [e] at q
          have q : ∀ H', Same H H' → Q (iV (if n = 0 then none else some n)) H' := q
          show _
          unfold iV
          walk_at "xx"
          refine iteD (fun z0 => ?_) (fun z0 => ?_)
          · have z0 : V.int n = V.int 0 := z0
            injection z0 with z0
            rw [if_pos z0] at q
            walk_at "xx"
            exact q H2 (s1.trans s2)
          · rw [if_neg (fun z => z0 (by rw [z]))] at q
            walk_at "xx"
            exact q H2 (s1.trans s2)
def spTextSize : Sp := fun vs H Q _ => ∃ z : Str, vs = [.str z] ∧ Row z ∧ ∀ H', Same H H' → Q (iV (szO "text" z)) H'
theorem k_text_size (T : Tx K mg) : C8.Cal P w K mg base 5 "_text_size" spTextSize [] := by
  refine cal_of (N := n_text_size) T.d_text_size sc_text_size (fun _ _ F => F.bindsN fun _ _ _ _ _ _ us hl => match us, hl with | [_], _ => rfl) (fun vs H Q E h => ?_) (fun f cdv A outer s H vs Q E hr h => ?_)
  · obtain ⟨_, rfl, _⟩ := h
    rfl
  · obtain ⟨z, rfl, hz, q⟩ := h
    refine ⟨_, (pss_one (ps_ret (C8.pe_c (k_size_behind T) hr (by first | decide | omega) (by rfl) (pa_cons pe_str (pa_cons (pv 0) pa_nil))))), ?_⟩
    walk_at "xx"
    exact ⟨"text", z, rfl, hz, q⟩
def spSubj : Sp := fun vs H Q _ => ∃ z : Str, vs = [.str z] ∧ Row z ∧ ∀ v H', Same H H' → Tp H' v (sbO z) → Q v H'
theorem k_subject_of (T : Tx K mg) : C8.Cal P w K mg base 5 "_subject_of" spSubj [] := by
  refine cal_of (N := n_subject_of) T.d_subject_of sc_subject_of (fun _ _ F => F.bindsN fun _ _ _ _ _ _ us hl => match us, hl with | [_], _ => rfl) (fun vs H Q E h => ?_) (fun f cdv A outer s H vs Q E hr h => ?_)
  · obtain ⟨_, rfl, _⟩ := h
    rfl
  · obtain ⟨z, rfl, hz, q⟩ := h
    refine ⟨_, (pss_cons (ps_if (pt_tr (WC.pe_bmK (K := K) PySem.F.plainAttrs_str PySem.F.slot_str_startswith PySem.F.type_str_startswith (WV.mt_starts : MtR _ _ WV.rStarts) (pv 0) (pa_cons pe_str pa_nil)) : PT _ _ (tTr K _)) (pss_one (ps_ret (pe_tup (pa_cons pe_str (pa_cons (pe_slice (sl_2 : SlR _ (rSl2 K)) (pv 0) (po_some (pe_callB (call_len2 : CallR _ _ (rLn K)) (by rfl) T.z_len (by decide +kernel) (pa_cons pe_str pa_nil))) po_none) pa_nil))))) pss_nil) (pss_cons (ps_asg (C8.pe_c (k_size_behind T) hr (by first | decide | omega) (by rfl) (pa_cons pe_str (pa_cons (pv 0) pa_nil))) (pg_name (i := 1) sc_subject_of.nd rfl (Or.inl rfl))) (pss_one (ps_ret (pe_ifExp (pt_cmpR op_isN2 (pv 1) pe_non (nomark _)) pe_non (pe_tup (pa_cons pe_str (pa_cons (pv 1) pa_nil)))))))), ?_⟩
    unfold sbO at q
    walk_at "xx"
    refine ⟨rfl, ?_⟩
    walk_at "xx"
    refine WV.m_starts ?_
    cases c : Txt.startswith z "place " with
    | true =>
      rw [c, if_pos rfl] at q
      walk_at "xx"
      refine b_lenS (z := "place ") (by show (("place " : Str)).length ≤ sizeLine; rw [sizeLine_eq]; decide +kernel) ?_
      walk_at "xx"
      refine l_S (by have := hz.l; rw [sizeLine_eq]; omega) ?_
      walk_at "xx"
      rename_i p H1 n1 s1 e1
      have e6 : (((("place " : Str)).length : Nat) : Int) = 6 := by decide +kernel
      rw [e6] at e1
      exact q _ H1 s1 (.tup e1 (.cons (.str _) (.cons (.str _) .nil)))
    | false =>
      rw [c, if_neg Bool.false_ne_true] at q
      walk_at "xx"
      refine ⟨"apart", z, rfl, hz, fun H1 s1 => ?_⟩
      cases e : szO "apart" z with
      | none =>
        rw [e] at q
        show _
        unfold iV
        walk_at "xx"
        exact q _ H1 s1 .non
      | some n =>
        rw [e] at q
        show _
        unfold iV
        walk_at "xx"
        rename_i p2 H2 n2 s2 e2
        exact q _ H2 (s1.trans s2) (.tup e2 (.cons (.str _) (.cons (.int _) .nil)))
def spVerd : Sp := fun vs H Q _ => ∃ z : Str, vs = [.str z] ∧ Row z ∧ ∀ v H', Same H H' → Tp H' v (vdO z) → Q v H'
theorem k_verdict_of_line (T : Tx K mg) : C8.Cal P w K mg base 5 "_verdict_of_line" spVerd [] := by
  refine cal_of (N := n_verdict_of_line) T.d_verdict_of_line sc_verdict_of_line (fun _ _ F => F.bindsN fun _ _ _ _ _ _ us hl => match us, hl with | [_], _ => rfl) (fun vs H Q E h => ?_) (fun f cdv A outer s H vs Q E hr h => ?_)
  · obtain ⟨_, rfl, _⟩ := h
    rfl
  · obtain ⟨z, rfl, hz, q⟩ := h
    refine ⟨_, (pss_cons (ps_asg (WC.pe_bmK (K := K) PySem.F.plainAttrs_str PySem.F.slot_str_split PySem.F.type_str_split (WV.mt_split1 : MtR _ _ WV.rSplit1) (pv 0) (pa_cons pe_str pa_nil)) (pg_name (i := 1) sc_verdict_of_line.nd rfl (Or.inl rfl))) (pss_cons (ps_if (pt_cmpR (op_eq2 hr.units : OpR _ _ (rEq2 K)) (pv 1) (pe_lst (pa_cons pe_str pa_nil)) (nomark _)) (pss_one (ps_ret (pe_tup (pa_cons pe_str pa_nil)))) pss_nil) (pss_one (ps_ret (C8.pe_c (k_with_numbers T) hr (by first | decide | omega) (by rfl) (pa_cons pe_str (pa_cons (pv 1) (pa_cons (pe_lc (own := [("part", 2)]) (g := gName 2) (tt := tYes) (by rfl) sc_verdict_of_line.nd (pi_list (pe_slice (sl_2 : SlR _ (rSl2 K)) (pv 1) (po_some pe_int) po_none) : PI _ _ _ (iList K _)) (blkOk_by (own := [("part", 2)]) (N := n_verdict_of_line) (sc := defScope s_verdict_of_line) (by decide +kernel)) (fun _ _ _ _ _ => pg_name (i := 2) sc_verdict_of_line.nd rfl (Or.inl rfl)) (fun _ _ _ _ _ => pts_nil) (fun _ _ _ _ _ => (C8.pe_c (k_signed_number T) hr (by first | decide | omega) (by rfl) (pa_cons (pv 2) pa_nil)))) pa_nil)))))))), ?_⟩
    obtain ⟨p0, ps, es, hrow, hmany⟩ := split_row (y := SP) (s := 32) hz (by decide +kernel) (by decide +kernel)
    unfold vdO at q
    rw [es] at q
    have q : ∀ v H', Same H H' → Tp H' v (vdL p0 ps) → Q v H' := q
    unfold vdL at q
    walk_at "xx"
    refine ⟨rfl, ?_⟩
    walk_at "xx"
    refine WV.m_split (by decide +kernel) (by have := hz.l; rw [sizeLine_eq]; omega) fun p H1 np s1 e1 => ?_
    rw [es] at e1
    have hok : ∀ x ∈ p0 :: ps, PyData.strOk x = true := fun x hx => ok_row (hrow x hx).1
    walk_at "xx"
    rename_i p2 H2 n2 s2 e2
    have e12 := s2 _ _ e1
    by_cases c : p0 = "none" ∧ ps = []
    · obtain ⟨rfl, rfl⟩ := c
      rw [if_pos ⟨rfl, rfl⟩] at q
      refine eq_same (d := .list [.str "none"]) (.lst (lst_of e12) (.cons (.str _) .nil)) (.lst (lst_of e2) (.cons (.str _) .nil)) (by decide +kernel) ?_
      walk_at "xx"
      rename_i p3 H3 n3 s3 e3
      exact q _ H3 (s1.trans (s2.trans s3)) (.tup e3 (.cons (.str _) .nil))
    · rw [if_neg c] at q
      refine eq_nb (d := .list ((p0 :: ps).map PyData.str)) (e := .list [.str "none"]) (.lst (lst_of e12) (strs_tp _).dp) (.lst (lst_of e2) (.cons (.str _) .nil)) (sh_strs hok) (by decide +kernel) (nb_strs _) (by decide +kernel) (fun z => ?_) (fun _ => ?_)
      · exfalso
        injection z with z
        injection z with z1 z2
        injection z1 with z1
        exact c ⟨z1, by simpa using z2⟩
      walk_at "xx"
      rename_i p3 H3 n3 s3 e3
      have ec : cutV ((p0 :: ps).map V.str) (some 1) none = ps.map V.str := cutFrom _ (by decide)
      have e3 : H3 p3 = some (.lst (cutV ((p0 :: ps).map V.str) (some 1) none)) := e3
      rw [ec] at e3
      have hmany2 : ps.length ≤ 2000 := by
        rw [List.length_cons] at hmany
        omega
      refine c_sel (p := fun _ => true) (F := PyData.str) (G := fun x : Str => iD (sgO x)) (.inl ⟨rfl, lst_of e3⟩) (strs_tp ps) (by omega) (fun x => rfl) (fun x u H4 N hx t s4 hN => ?_) (fun x u H4 N hx hp t s4 hN => ?_) (fun D H4 ys nD s4 e4 t => ?_)
      · walk_at "xx"
        exact hN H4 (Same.refl _)
      · cases t
        walk_at "xx"
        exact ⟨x, rfl, (hrow x (List.mem_cons_of_mem _ hx)).1, fun H5 s5 => hN _ H5 s5 (tp_iV _)⟩
      · have e : ps.filter (fun _ => true) = ps := List.filter_eq_self.mpr fun _ _ => rfl
        rw [e] at t
        walk_at "xx"
        refine ⟨"found", p0, p, D, _, ys, _, rfl, s4 _ _ (s3 _ _ e12), e4, t, shL _ ps 0 (by decide) fun x _ => lay_iD _, fun v H5 s5 tv => ?_⟩
        exact q v H5 (s1.trans (s2.trans (s3.trans (s4.trans s5)))) tv
def spTok : Sp := fun vs H Q _ => ∃ z : Str, vs = [.str z] ∧ Row z ∧ ∀ v H', Same H H' → Tp H' v (tkO z) → Q v H'
theorem cm_lay (z : Str) : (cmO z).canLay0 = true ∧ (cmO z).depth ≤ 1 := by
  unfold cmO
  split
  · exact ⟨by decide +kernel, by decide +kernel⟩
  · refine ⟨?_, ?_⟩
    · simp only [PyData.canLay0]
      exact lay_all _ _ fun x _ => (lay_iD _).1
    · have := dep_all (fun x : Str => iD (nmO x)) 0 (Txt.split z CM) fun x _ => (lay_iD _).2
      simp only [PyData.depth]
      omega
theorem k_token_of (T : Tx K mg) : C8.Cal P w K mg base 5 "_token_of" spTok [] := by
  refine cal_of (N := n_token_of) T.d_token_of sc_token_of (fun _ _ F => F.bindsN fun _ _ _ _ _ _ us hl => match us, hl with | [_], _ => rfl) (fun vs H Q E h => ?_) (fun f cdv A outer s H vs Q E hr h => ?_)
  · obtain ⟨_, rfl, _⟩ := h
    rfl
  · obtain ⟨z, rfl, hz, q⟩ := h
    refine ⟨_, (pss_cons (ps_asg (WC.pe_bmK (K := K) PySem.F.plainAttrs_str PySem.F.slot_str_split PySem.F.type_str_split (WV.mt_split1 : MtR _ _ WV.rSplit1) (pv 0) (pa_cons pe_str pa_nil)) (pg_name (i := 1) sc_token_of.nd rfl (Or.inl rfl))) (pss_cons (ps_if (pt_cmpR (WXD.op_inT (WP.room65 hr) : OpR _ _ (WXD.rInT K false)) (pv 1) (pe_tup (pa_cons (pe_lst (pa_cons pe_str pa_nil)) (pa_cons (pe_lst (pa_cons pe_str pa_nil)) pa_nil))) (by rfl)) (pss_one (ps_ret (pe_tup (pa_cons (pe_ix (ix_seq : IxR _ (rIx K)) (pv 1) pe_int (fun _ _ => rfl)) pa_nil)))) pss_nil) (pss_cons (ps_if (pt_cmpR (op_eq2 hr.units : OpR _ _ (rEq2 K)) (pe_ix (ix_seq : IxR _ (rIx K)) (pv 1) pe_int (fun _ _ => rfl)) pe_str (nomark _)) (pss_one (ps_ret (C8.pe_c (k_with_numbers T) hr (by first | decide | omega) (by rfl) (pa_cons pe_str (pa_cons (pv 1) (pa_cons (pe_lc (own := [("part", 2)]) (g := gName 2) (tt := tYes) (by rfl) sc_token_of.nd (pi_list (pe_slice (sl_2 : SlR _ (rSl2 K)) (pv 1) (po_some pe_int) po_none) : PI _ _ _ (iList K _)) (blkOk_by (own := [("part", 2)]) (N := n_token_of) (sc := defScope s_token_of) (by decide +kernel)) (fun _ _ _ _ _ => pg_name (i := 2) sc_token_of.nd rfl (Or.inl rfl)) (fun _ _ _ _ _ => pts_nil) (fun _ _ _ _ _ => (C8.pe_c (k_numbers_between_commas T) hr (by first | decide | omega) (by rfl) (pa_cons (pv 2) pa_nil)))) pa_nil)))))) pss_nil) (pss_one (ps_ret (C8.pe_c (k_with_numbers T) hr (by first | decide | omega) (by rfl) (pa_cons pe_str (pa_cons (pv 1) (pa_cons (pe_lc (own := [("part", 2)]) (g := gName 2) (tt := tYes) (by rfl) sc_token_of.nd (pi_list (pe_slice (sl_2 : SlR _ (rSl2 K)) (pv 1) (po_some pe_int) po_none) : PI _ _ _ (iList K _)) (blkOk_by (own := [("part", 2)]) (N := n_token_of) (sc := defScope s_token_of) (by decide +kernel)) (fun _ _ _ _ _ => pg_name (i := 2) sc_token_of.nd rfl (Or.inl rfl)) (fun _ _ _ _ _ => pts_nil) (fun _ _ _ _ _ => (C8.pe_c (k_number T) hr (by first | decide | omega) (by rfl) (pa_cons (pv 2) pa_nil)))) pa_nil))))))))), ?_⟩
    obtain ⟨p0, ps, es, hrow, hmany⟩ := split_row (y := SP) (s := 32) hz (by decide +kernel) (by decide +kernel)
    unfold tkO at q
    rw [es] at q
    have q : ∀ v H', Same H H' → Tp H' v (tkL p0 ps) → Q v H' := q
    unfold tkL at q
    have hok : ∀ x ∈ p0 :: ps, PyData.strOk x = true := fun x hx => ok_row (hrow x hx).1
    have hmany2 : ps.length ≤ 2000 := by
      rw [List.length_cons] at hmany
      omega
    walk_at "xx"
    refine ⟨rfl, ?_⟩
    walk_at "xx"
    refine WV.m_split (by decide +kernel) (by have := hz.l; rw [sizeLine_eq]; omega) fun p H1 np s1 e1 => ?_
    rw [es] at e1
    have e1 : H1 p = some (.lst (.str p0 :: ps.map V.str)) := e1
    walk_at "xx"
    rename_i q1 Ha na sa ea q2 Hb nb_ sb eb q3 Hc nc sc ec
    have S1c := sa.trans (sb.trans sc)
    have e1c := S1c _ _ e1
    have DP : Dp K Hc (.ref p) (.list ((p0 :: ps).map PyData.str)) := .lst (lst_of e1c) (strs_tp (p0 :: ps)).dp
    have DQ : Dp K Hc (.ref q3) (.tuple [.list [.str "on"], .list [.str "over"]]) := .tup (tup_of ec) (.cons (.lst (lst_of (sc _ _ (sb _ _ ea))) (.cons (.str _) .nil)) (.cons (.lst (lst_of (sc _ _ eb)) (.cons (.str _) .nil)) .nil))
    refine ⟨.list ((p0 :: ps).map PyData.str), [.list [.str "on"], .list [.str "over"]], DP, DQ, sh_strs hok, by decide +kernel, ?_⟩
    have S := s1.trans S1c
    have one : ∀ w : Str, PyData.eqv (.list [.str w]) (.list ((p0 :: ps).map PyData.str)) = decide (p0 = w ∧ ps = []) := fun w => by
      by_cases c : p0 = w ∧ ps = []
      · rw [decide_eq_true c]
        obtain ⟨rfl, rfl⟩ := c
        exact (eqv_iff _ _ (nb_strs [p0]) (nb_strs [p0])).mpr rfl
      · rw [decide_eq_false c]
        cases y : PyData.eqv (.list [.str w]) (.list ((p0 :: ps).map PyData.str)) with
        | false => rfl
        | true =>
          have := (eqv_iff _ _ (nb_strs [w]) (nb_strs (p0 :: ps))).mp y
          injection this with this
          injection this with t1 t2
          injection t1 with t1
          exact absurd ⟨t1.symm, by simpa using t2.symm⟩ c
    rw [List.any_cons, List.any_cons, List.any_nil, Bool.or_false, one, one]
    by_cases c : (p0 = "on" ∧ ps = []) ∨ (p0 = "over" ∧ ps = [])
    · rw [if_pos c] at q
      have hb : (decide (p0 = "on" ∧ ps = []) || decide (p0 = "over" ∧ ps = [])) = true := by
        rcases c with c | c
        · rw [decide_eq_true c, Bool.true_or]
        · rw [decide_eq_true c, Bool.or_true]
      rw [hb]
      walk_at "xx"
      refine o_ixL (lst_of e1c) (v := .str p0) (atI_nat (j := 0) rfl) ?_
      walk_at "xx"
      rename_i p5 H5 n5 s5 e5
      exact q _ H5 (S.trans s5) (.tup e5 (.cons (.str _) .nil))
    · rw [if_neg c] at q
      have hb : (decide (p0 = "on" ∧ ps = []) || decide (p0 = "over" ∧ ps = [])) = false := by
        rw [decide_eq_false (fun z => c (.inl z)), decide_eq_false (fun z => c (.inr z))]
        rfl
      rw [hb]
      walk_at "xx"
      refine o_ixL (lst_of e1c) (v := .str p0) (atI_nat (j := 0) rfl) ?_
      walk_at "xx"
      have ec : cutV ((p0 :: ps).map V.str) (some 1) none = ps.map V.str := cutFrom _ (by decide)
      refine iteD (fun c0 => ?_) (fun c0 => ?_)
      · have c0 : V.str p0 = V.str "met" := c0
        injection c0 with c0
        rw [if_pos c0] at q
        walk_at "xx"
        rename_i p3 H3 n3 s3 e3
        have e3 : H3 p3 = some (.lst (cutV ((p0 :: ps).map V.str) (some 1) none)) := e3
        rw [ec] at e3
        refine c_sel (p := fun _ => true) (F := PyData.str) (G := fun x : Str => cmO x) (.inl ⟨rfl, lst_of e3⟩) (strs_tp ps) (by omega) (fun x => rfl) (fun x u H4 N hx t s4 hN => ?_) (fun x u H4 N hx hp t s4 hN => ?_) (fun D H4 ys nD s4 e4 t => ?_)
        · walk_at "xx"
          exact hN H4 (Same.refl _)
        · cases t
          walk_at "xx"
          exact ⟨x, rfl, (hrow x (List.mem_cons_of_mem _ hx)).1, fun v H5 s5 t5 => hN v H5 s5 t5⟩
        · have e : ps.filter (fun _ => true) = ps := List.filter_eq_self.mpr fun _ _ => rfl
          rw [e] at t
          walk_at "xx"
          refine ⟨"met", p0, p, D, _, ys, _, rfl, s4 _ _ (s3 _ _ e1c), e4, t, shL _ ps 1 (by decide) fun x _ => cm_lay x, fun v H5 s5 tv => ?_⟩
          exact q v H5 (S.trans (s3.trans (s4.trans s5))) tv
      · rw [if_neg (fun e => c0 (by rw [e]))] at q
        walk_at "xx"
        rename_i p3 H3 n3 s3 e3
        have e3 : H3 p3 = some (.lst (cutV ((p0 :: ps).map V.str) (some 1) none)) := e3
        rw [ec] at e3
        refine c_sel (p := fun _ => true) (F := PyData.str) (G := fun x : Str => iD (nmO x)) (.inl ⟨rfl, lst_of e3⟩) (strs_tp ps) (by omega) (fun x => rfl) (fun x u H4 N hx t s4 hN => ?_) (fun x u H4 N hx hp t s4 hN => ?_) (fun D H4 ys nD s4 e4 t => ?_)
        · walk_at "xx"
          exact hN H4 (Same.refl _)
        · cases t
          walk_at "xx"
          exact ⟨x, rfl, (hrow x (List.mem_cons_of_mem _ hx)).1, fun H5 s5 => hN _ H5 s5 (tp_iV _)⟩
        · have e : ps.filter (fun _ => true) = ps := List.filter_eq_self.mpr fun _ _ => rfl
          rw [e] at t
          walk_at "xx"
          refine ⟨"dead", p0, p, D, _, ys, _, rfl, s4 _ _ (s3 _ _ e1c), e4, t, shL _ ps 0 (by decide) fun x _ => lay_iD _, fun v H5 s5 tv => ?_⟩
          exact q v H5 (S.trans (s3.trans (s4.trans s5))) tv
end
end K30
-- WIDE
namespace K30
open PySem PySem.Spec PyProof.Rows L2 Wy WN WQ WS WC WE WO WM W3 W4 WR WXD

section
variable {P : Program} {w : World} {K : PySem.W.Frag} {mg : Str → Option Value} {base : Heap}
/-- the fields of a paper -/
abbrev pf (z s v t : V) : List (Str × V) := [("text", z), ("subject", s), ("verdict", v), ("tokens", t)]
def spPapInit (K : PySem.W.Frag) : Sp := fun vs H Q _ => ∃ (x dx : Addr) (z s v t : V), vs = [.ref x, z, s, v, t] ∧ H x = some (.ins (He.ga K "Paper") dx []) ∧
  ∀ H', (∀ b o, b ≠ x → H b = some o → H' b = some o) → H' x = some (.ins (He.ga K "Paper") dx (pf z s v t)) → Q .non H'
theorem k_Paper___init (T : Tx K mg) : C8.Mak P w K mg base 1 "Paper" (He.ga K "Paper") (spPapInit K) [] := by
  refine mak_of (N := n_Paper___init) T.d_Paper___init sc_Paper___init (fun _ _ F => F.bindsN fun _ _ _ _ _ _ us hl => match us, hl with | [_, _, _, _, _], _ => rfl) (fun vs H Q E h => ?_) (fun f cdv A outer s H vs Q E hr h => ?_)
  · obtain ⟨_, _, _, _, _, _, rfl, _⟩ := h
    rfl
  · obtain ⟨x, dx, z, s', v, t, rfl, hx, q⟩ := h
    refine ⟨_, (pss_cons (WO.ps_fldK (K := K) (pv 0) (pv 1)) (pss_cons (WO.ps_fldK (K := K) (pv 0) (pv 2)) (pss_cons (WO.ps_fldK (K := K) (pv 0) (pv 3)) (pss_one (WO.ps_fldK (K := K) (pv 0) (pv 4)))))), ?_⟩
    have cl := T.c_Paper
    have a1 := T.a_Paper_text
    have a2 := T.a_Paper_subject
    have a3 := T.a_Paper_verdict
    have a4 := T.a_Paper_tokens
    walk_at "xx"
    refine k_fldS hx cl a1 (Nat.lt_of_sub_eq_succ rfl) fun H1 c1 e1 => ?_
    walk_at "xx"
    refine k_fldS e1 cl a2 (Nat.lt_of_sub_eq_succ rfl) fun H2 c2 e2 => ?_
    walk_at "xx"
    refine k_fldS e2 cl a3 (Nat.lt_of_sub_eq_succ rfl) fun H3 c3 e3 => ?_
    walk_at "xx"
    refine k_fldS e3 cl a4 (Nat.lt_of_sub_eq_succ rfl) fun H4 c4 e4 => ?_
    walk_at "xx"
    exact q H4 (fun b o n e => c4.at (c3.at (c2.at (c1.at e n) n) n) n) e4
/-- what stands in a paper, as data -/
structure Pd where
  z : Str
  s : PyData
  v : PyData
  t : PyData
structure PapO (K : PySem.W.Frag) (H : Hp) (x : Addr) (d : Pd) : Prop where
  ex : ∃ dx s v t, H x = some (.ins (He.ga K "Paper") dx (pf (.str d.z) s v t)) ∧ Tp H s d.s ∧ Tp H v d.v ∧ Tp H t d.t
end
end K30
-- WIDE
-- RAISES PaperReader.take_lines PaperReader.take read_paper
namespace K30
open PySem PySem.Spec PyProof.Rows L2 Wy WN WQ WS WC WE WO WM W3 W4 WR WXD

section
variable {P : Program} {w : World} {K : PySem.W.Frag} {mg : Str → Option Value} {base : Heap}
/-- a reader: its rows, and how many are taken -/
structure RdO (K : PySem.W.Frag) (H : Hp) (x dx a : Addr) (ls : List Str) (n : Nat) : Prop where
  ins : H x = some (.ins (He.ga K "PaperReader") dx [("_lines", .ref a), ("_taken", .int (n : Int))])
  rows : H a = some (.lst (ls.map V.str))
def spRdInit (K : PySem.W.Frag) : Sp := fun vs H Q _ => ∃ (x dx a : Addr) (ls : List Str), vs = [.ref x, .ref a] ∧ H x = some (.ins (He.ga K "PaperReader") dx []) ∧ H a = some (.lst (ls.map V.str)) ∧
  ∀ H', (∀ b o, b ≠ x → H b = some o → H' b = some o) → RdO K H' x dx a ls 0 → Q .non H'
theorem k_PaperReader___init (T : Tx K mg) : C8.Mak P w K mg base 1 "PaperReader" (He.ga K "PaperReader") (spRdInit K) [] := by
  refine mak_of (N := n_PaperReader___init) T.d_PaperReader___init sc_PaperReader___init (fun _ _ F => F.bindsN fun _ _ _ _ _ _ us hl => match us, hl with | [_, _], _ => rfl) (fun vs H Q E h => ?_) (fun f cdv A outer s H vs Q E hr h => ?_)
  · obtain ⟨_, _, _, _, rfl, _⟩ := h
    rfl
  · obtain ⟨x, dx, a, ls, rfl, hx, ha, q⟩ := h
    refine ⟨_, (pss_cons (WO.ps_fldK (K := K) (pv 0) (pv 1)) (pss_one (WO.ps_fldK (K := K) (pv 0) pe_int))), ?_⟩
    have cl := T.c_PaperReader
    have a1 := T.a_PaperReader__lines
    have a2 := T.a_PaperReader__taken
    have nax : a ≠ x := ne_of ha hx (fun z => nomatch z)
    walk_at "xx"
    refine k_fldS hx cl a1 (Nat.lt_of_sub_eq_succ rfl) fun H1 c1 e1 => ?_
    walk_at "xx"
    refine k_fldS e1 cl a2 (Nat.lt_of_sub_eq_succ rfl) fun H2 c2 e2 => ?_
    walk_at "xx"
    exact q H2 (fun b o n e => c2.at (c1.at e n) n) ⟨e2, c2.at (c1.at ha nax) nax⟩
def spDone (K : PySem.W.Frag) : Sp := fun vs H Q _ => ∃ (x dx a : Addr) (ls : List Str) (n : Nat), vs = [.ref x] ∧ RdO K H x dx a ls n ∧ Q (.bl (decide (n = ls.length))) H
theorem k_PaperReader_is_done (T : Tx K mg) : C8.Met P w K mg base 1 (He.ga K "PaperReader") "is_done" (spDone K) [] := by
  refine met_of (N := n_PaperReader_is_done) T.d_PaperReader_is_done T.c_PaperReader sc_PaperReader_is_done (fun _ _ F => F.bindsN fun _ _ _ _ _ _ us hl => match us, hl with | [_], _ => rfl) (fun vs H Q E h => ?_) (fun f cdv A outer s H vs Q E hr h => ?_)
  · obtain ⟨_, _, _, _, _, rfl, _⟩ := h
    rfl
  · obtain ⟨x, dx, a, ls, n, rfl, hx, q⟩ := h
    refine ⟨_, (pss_one (ps_ret (pe_cmpR (op_eq2 hr.units : OpR _ _ (rEq2 K)) (WO.pe_fldK (K := K) (pv 0)) (pe_callB (call_len2 : CallR _ _ (rLn K)) (by rfl) T.z_len (by decide +kernel) (pa_cons (WO.pe_fldK (K := K) (pv 0)) pa_nil)) (nomark _)))), ?_⟩
    have cl := T.c_PaperReader
    have a1 := T.a_PaperReader__lines
    have a2 := T.a_PaperReader__taken
    obtain ⟨ex, ea⟩ := hx
    walk_at "xx"
    refine b_lenL (lst_of ea) ?_
    walk_at "xx"
    rw [List.length_map, dI]
    have e : decide ((n : Int) = (ls.length : Int)) = decide (n = ls.length) := by
      rw [decide_eq_decide]
      omega
    rw [e]
    exact q
theorem s_fldaugV {K : PySem.W.Frag} {σ : L2.St} {H : Hp} {D : Ends} {a C dx : Addr} {fs : List (Str × V)} {f : Str} {i i2 : Nat} {j c : Int} (ev : σ[i]? = some (some (.ref a))) (ev2 : σ[i2]? = some (some (.int c))) (e : H a = some (.ins C dx fs)) (cl : Cls K C) (n : NoAttr K C f) (l : fs.lookup f = some (.int j)) (sm : fs.length < 1000) (h : ∀ H2, Chg a H H2 → H2 a = some (.ins C dx (putF f (.int (j + c)) fs)) → D.nx σ H2) :
    sFldAug K (tVar i) (tVar i2) rAdd f D σ H := ⟨.ref a, ev, a, C, dx, fs, .int j, rfl, e, cl, n, l, .int c, ev2, j, c, rfl, rfl, dx, fs, e, sm, h _ chg_upd upd_same⟩
theorem sum_len {ps : List Str} {B : Nat} (h : ∀ p ∈ ps, p.length ≤ B) : (ps.map (·.length)).sum ≤ ps.length * B := by
  induction ps with
  | nil => simp
  | cons p r ih =>
    have h1 := h p (List.mem_cons_self ..)
    have h2 := ih fun x hx => h x (List.mem_cons_of_mem _ hx)
    simp only [List.map_cons, List.sum_cons, List.length_cons, Nat.add_mul]
    omega
theorem cut_mid (xs : List V) {n m : Nat} (h : n + m ≤ xs.length) : cutV xs (some (n : Int)) (some ((n : Int) + (m : Int))) = (xs.drop n).take m := by
  have e : ((n : Int) + (m : Int)) = ((n + m : Nat) : Int) := by omega
  unfold cutV
  rw [e, HT.sIx_nat, HT.sIx_nat, Nat.min_eq_left (by omega), Nat.min_eq_left (by omega)]
  congr 1
  omega
theorem cut_past (xs : List V) {n m : Nat} (hn : n ≤ xs.length) (h : xs.length < n + m) : cutV xs (some (n : Int)) (some ((n : Int) + (m : Int))) = xs.drop n := by
  have e : ((n : Int) + (m : Int)) = ((n + m : Nat) : Int) := by omega
  unfold cutV
  rw [e, HT.sIx_nat, HT.sIx_nat, Nat.min_eq_left hn, Nat.min_eq_right (by omega)]
  rw [List.take_of_length_le (by rw [List.length_drop]; exact Nat.le_refl _)]
theorem w_bad {K : PySem.W.Frag} {C : Str} {ta : TA} {σ : L2.St} {H : Hp} {Q : XK} (h : ta σ H fun vs H1 => ∃ i : Int, vs = [.int i] ∧ i.natAbs < 10 ^ 10 ∧ ∀ d H2, H1 d = none → Same H1 H2 → H2 d = some (.xd [("row", .int i)]) → Q (.ref (He.ga K C)) (some d) H2) : WBX.tBad K C ta σ H Q := h
/-- a paper is refused at a row -/
def Bad (K : PySem.W.Frag) (E : XK) (i : Nat) : Prop := ∀ d H', H' d = some (.xd [("row", .int (i : Int))]) → E (.ref (He.ga K "BadPaper")) (some d) H'
def spTakeL (K : PySem.W.Frag) : Sp := fun vs H Q E => ∃ (x dx a : Addr) (ls : List Str) (n m : Nat), vs = [.ref x, .int (m : Int)] ∧ RdO K H x dx a ls n ∧ n ≤ ls.length ∧ ls.length ≤ 1000 ∧ m ≤ 10 ^ 12 ∧ (∀ l ∈ ls, l.length ≤ 2000) ∧
  (n + m ≤ ls.length → ∀ H', (∀ b o, b ≠ x → H b = some o → H' b = some o) → RdO K H' x dx a ls (n + m) → Q (.str (Txt.join NL ((ls.drop n).take m))) H') ∧ (ls.length < n + m → Bad K E (ls.length + 1))
theorem k_PaperReader_take_lines (T : Tx K mg) (pf : WBX.PF P fileP) : WF.MetX P w K mg base 4 (He.ga K "PaperReader") "take_lines" (spTakeL K) [] := by
  refine WF.met_ofX (N := n_PaperReader_take_lines) T.d_PaperReader_take_lines T.c_PaperReader sc_PaperReader_take_lines (fun _ _ F => F.bindsN fun _ _ _ _ _ _ us hl => match us, hl with | [_, _], _ => rfl) (fun vs H Q E h => ?_) (fun f cdv A outer s H vs Q E hr h => ?_)
  · obtain ⟨_, _, _, _, _, _, rfl, _⟩ := h
    rfl
  · obtain ⟨x, dx, a, ls, n, m, rfl, hx, hnl, hll, hm, hls, q, qe⟩ := h
    refine ⟨_, (pss_cons (ps_asg (pe_slice (sl_2 : SlR _ (rSl2 K)) (WO.pe_fldK (K := K) (pv 0)) (po_some (WO.pe_fldK (K := K) (pv 0))) (po_some (pe_op op_add3 (WO.pe_fldK (K := K) (pv 0)) (pv 1)))) (pg_name (i := 2) sc_PaperReader_take_lines.nd rfl (Or.inl rfl))) (pss_cons (ps_if (pt_cmpR op_lt (pe_callB (call_len2 : CallR _ _ (rLn K)) (by rfl) T.z_len (by decide +kernel) (pa_cons (pv 2) pa_nil)) (pv 1) (nomark _)) (pss_one (ps_raise rfl (takes_of rfl rfl rfl rfl) (WBX.pmk_bad T.b_BadPaper (k_BadLine_init T pf).choose_spec.1 (k_BadLine_init T pf).choose_spec.2 hr (by first | decide | omega) (by rfl) (pa_cons (pe_op op_add3 (pe_callB (call_len2 : CallR _ _ (rLn K)) (by rfl) T.z_len (by decide +kernel) (pa_cons (WO.pe_fldK (K := K) (pv 0)) pa_nil)) pe_int) pa_nil)))) pss_nil) (pss_cons (WO.ps_fldaugK (K := K) (pv 0) (pv 1) in_add) (pss_one (ps_ret (pe_join2 pe_str (pv 2) : PE _ _ (tM1 (rJoin K) _ _))))))), ?_⟩
    have cl := T.c_PaperReader
    have a1 := T.a_PaperReader__lines
    have a2 := T.a_PaperReader__taken
    obtain ⟨ex, ea⟩ := hx
    have nax : a ≠ x := ne_of ea ex (fun z => nomatch z)
    walk_at "xx"
    rename_i p H1 n1 s1 e1
    have ex1 := s1 _ _ ex
    have ea1 := s1 _ _ ea
    by_cases hnm : n + m ≤ ls.length
    · rw [cut_mid _ (by rw [List.length_map]; exact hnm), ← List.map_drop, ← List.map_take] at e1
      have lp : ((ls.drop n).take m).length = m := by
        rw [List.length_take, List.length_drop]
        omega
      refine b_lenL (lst_of e1) ?_
      walk_at "xx"
      refine iteFF ?_ ?_
      · rw [List.length_map, lp]
        exact decide_eq_false (by omega)
      walk_at "xx"
      refine s_fldaugV rfl rfl ex1 cl a2 rfl (Nat.lt_of_sub_eq_succ rfl) fun H2 c2 e2 => ?_
      have npx : p ≠ x := ne_of e1 ex1 (fun z => nomatch z)
      have e12 := c2.at e1 npx
      have en : ((n + m : Nat) : Int) = (n : Int) + (m : Int) := by omega
      walk_at "xx"
      refine m_join (lst_of e12) ?_ ?_
      · have h1 := sum_len (ps := (ls.drop n).take m) (B := 2000) fun l hl => hls l (List.mem_of_mem_drop (List.mem_of_mem_take hl))
        have e : (Str.ofString "\n").length = 1 := rfl
        rw [e]
        omega
      · refine q hnm H2 (fun b o nb h => c2.at (s1 _ _ h) nb) ⟨?_, c2.at (s1 _ _ ea) nax⟩
        rw [en]
        exact e2
    · rw [cut_past _ (by rw [List.length_map]; exact hnl) (by rw [List.length_map]; omega), ← List.map_drop] at e1
      refine b_lenL (lst_of e1) ?_
      walk_at "xx"
      refine iteTT ?_ ?_
      · rw [List.length_map, List.length_drop]
        exact decide_eq_true (by omega)
      walk_at "xx"
      refine w_bad ?_
      walk_at "xx"
      refine b_lenL (lst_of ea1) ?_
      rw [List.length_map]
      walk_at "xx"
      exact ⟨_, rfl, by omega, fun d H2 _ _ e => qe (by omega) d H2 e⟩
end
end K30
-- WIDE
-- RAISES PaperReader.take_lines PaperReader.take read_paper
namespace K30
open PySem PySem.Spec PyProof.Rows L2 Wy WN WQ WS WC WE WO WM W3 W4 WR WXD
open WV (fAt fAt_ne held_of)

section
variable {P : Program} {w : World} {K : PySem.W.Frag} {mg : Str → Option Value} {base : Heap}
open Classical in
/-- the promises of the four forms of a row, by address -/
noncomputable def held (T : Tx K mg) : Addr → Option Sp := fun f =>
  if f = fAt T.d_text_size then some spTextSize else if f = fAt T.d_subject_of then some spSubj else if f = fAt T.d_verdict_of_line then some spVerd else if f = fAt T.d_token_of then some spTok else none
theorem held_size (T : Tx K mg) : held T (fAt T.d_text_size) = some spTextSize := if_pos rfl
theorem held_subj (T : Tx K mg) : held T (fAt T.d_subject_of) = some spSubj := by
  unfold held
  rw [if_neg (fAt_ne _ _ (by decide)), if_pos rfl]
theorem held_verd (T : Tx K mg) : held T (fAt T.d_verdict_of_line) = some spVerd := by
  unfold held
  rw [if_neg (fAt_ne _ _ (by decide)), if_neg (fAt_ne _ _ (by decide)), if_pos rfl]
theorem held_tok (T : Tx K mg) : held T (fAt T.d_token_of) = some spTok := by
  unfold held
  rw [if_neg (fAt_ne _ _ (by decide)), if_neg (fAt_ne _ _ (by decide)), if_neg (fAt_ne _ _ (by decide)), if_pos rfl]
theorem held_ok (T : Tx K mg) : ∀ f sp, held T f = some sp → Held P w K mg base 5 f sp := fun f sp h => by
  unfold held at h
  split at h
  · rename_i e
    cases h
    rw [e]
    exact held_of _ (k_text_size T)
  · split at h
    · rename_i e
      cases h
      rw [e]
      exact held_of _ (k_subject_of T)
    · split at h
      · rename_i e
        cases h
        rw [e]
        exact held_of _ (k_verdict_of_line T)
      · split at h
        · rename_i e
          cases h
          rw [e]
          exact held_of _ (k_token_of T)
        · cases h
/-- one row taken: what its form gives -/
def spTake1 (T : Tx K mg) : Sp := fun vs H Q E => ∃ (x dx a f : Addr) (sp : Sp) (ls : List Str) (n : Nat), vs = [.ref x, .ref f] ∧ held T f = some sp ∧ RdO K H x dx a ls n ∧ n ≤ ls.length ∧ ls.length ≤ 1000 ∧ (∀ l ∈ ls, l.length ≤ 2000) ∧
  (ls[n]? = none → Bad K E (ls.length + 1)) ∧ ∀ l, ls[n]? = some l → ∀ H', (∀ b o, b ≠ x → H b = some o → H' b = some o) → RdO K H' x dx a ls (n + 1) →
    ∀ Q' : VK, (∀ v H2, RdO K H2 x dx a ls (n + 1) → (v ≠ .non → Q v H2) → (v = .non → Bad K E (n + 1)) → Q' v H2) → sp [.str l] H' Q' (fun _ _ _ => False)
theorem k_PaperReader_take (T : Tx K mg) (pf : WBX.PF P fileP) : WF.MetX P w K mg base 6 (He.ga K "PaperReader") "take" (spTake1 T) [] := by
  refine WF.met_ofX (N := n_PaperReader_take) T.d_PaperReader_take T.c_PaperReader sc_PaperReader_take (fun _ _ F => F.bindsN fun _ _ _ _ _ _ us hl => match us, hl with | [_, _], _ => rfl) (fun vs H Q E h => ?_) (fun f cdv A outer s H vs Q E hr h => ?_)
  · obtain ⟨_, _, _, _, _, _, _, rfl, _⟩ := h
    rfl
  · obtain ⟨x, dx, a, f, sp, ls, n, rfl, hf, hx, hn, hll, hls, qe, q⟩ := h
    refine ⟨_, (pss_cons (ps_asg (pe_callA (S := held T) (i := 1) (held_ok T) (hr.mono (by first | decide | omega)) rfl (Or.inl rfl) (pa_cons (WF.pe_mtR (k_PaperReader_take_lines (K := K) T pf) (takes_of rfl rfl rfl rfl) hr (by first | decide | omega) (pv 0) (pa_cons pe_int pa_nil)) pa_nil)) (pg_name (i := 2) sc_PaperReader_take.nd rfl (Or.inl rfl))) (pss_cons (ps_if (pt_cmpR op_isN2 (pv 2) pe_non (nomark _)) (pss_one (ps_raise rfl (takes_of rfl rfl rfl rfl) (WBX.pmk_bad T.b_BadPaper (k_BadLine_init T pf).choose_spec.1 (k_BadLine_init T pf).choose_spec.2 hr (by first | decide | omega) (by rfl) (pa_cons (WO.pe_fldK (K := K) (pv 0)) pa_nil)))) pss_nil) (pss_one (ps_ret (pv 2))))), ?_⟩
    have cl := T.c_PaperReader
    have a2 := T.a_PaperReader__taken
    have ex := hx.ins
    walk_at "xx"
    refine WV.e_callA rfl hf ?_
    walk_at "xx"
    refine ⟨x, dx, a, ls, n, 1, rfl, hx, hn, hll, by decide, hls, fun hn1 H1 k1 hx1 => ?_, fun hn1 => qe (List.getElem?_eq_none (by omega))⟩
    have el : (ls.drop n).take 1 = [ls[n]] := by
      rw [List.drop_eq_getElem_cons (by omega)]
      rfl
    rw [el, WR.join_one]
    walk_at "xx"
    refine q _ (List.getElem?_eq_getElem (by omega)) H1 k1 hx1 _ fun v H2 rd h1 h2 => ?_
    have ex2 := rd.ins
    walk_at "xx"
    by_cases c : v = .non
    · refine iteTT (decide_eq_true c) ?_
      walk_at "xx"
      refine w_bad ?_
      walk_at "xx"
      exact ⟨_, rfl, by omega, fun d H3 _ _ e => h2 c d H3 e⟩
    · refine iteFF (decide_eq_false c) ?_
      walk_at "xx"
      exact h1 c
end
end K30
-- WIDE
namespace K30
open PySem PySem.Spec PyProof.Rows L2 Wy WN WQ WS WC WE WO WM W3 W4 WR WXD W30
/-- what a paper of given rows is, or the row at which it is refused -/
def toksO (n : Nat) : List Str → Except Nat (List PyData)
  | [] => .ok []
  | l :: r => if isN (tkO l) = true then .error (n + 1) else match toksO (n + 1) r with
    | .error e => .error e
    | .ok ts => .ok (tkO l :: ts)
def readT (c n : Nat) (zt : Str) (s v : PyData) : List Str → Except Nat Pd
  | [] => .error (c + 1)
  | l :: r => match toksO n (l :: r) with
    | .error e => .error e
    | .ok ts => .ok ⟨zt, s, v, .tuple ts⟩
def readV (c n : Nat) (zt : Str) (s : PyData) : List Str → Except Nat Pd
  | [] => .error (c + 1)
  | l :: r => if isN (vdO l) = true then .error (n + 1) else readT c (n + 1) zt s (vdO l) r
def readS (c n : Nat) (zt : Str) : List Str → Except Nat Pd
  | [] => .error (c + 1)
  | l :: r => if Txt.startswith l "place " = true then readV c (n + 1) zt (.tuple [.str "place", .str (cutS l (some 6) none)]) r
    else match szO "apart" l with
    | none => .error (n + 1)
    | some k => if k.toNat ≤ r.length then readV c (n + 1 + k.toNat) zt (.tuple [.str "apart", .str (Txt.join NL (r.take k.toNat))]) (r.drop k.toNat) else .error (c + 1)
def readO : List Str → Except Nat Pd
  | [] => .error 1
  | l :: r => match szO "text" l with
    | none => .error 1
    | some k => if k.toNat ≤ r.length then readS (r.length + 1) (1 + k.toNat) (Txt.join NL (r.take k.toNat)) (r.drop k.toNat) else .error (r.length + 1 + 1)
theorem numW_bound {z : Str} (h : numW 12 z = true) : dv z < 10 ^ 12 := by
  unfold numW at h
  simp only [Bool.and_eq_true, decide_eq_true_eq] at h
  obtain ⟨⟨⟨h1, h2⟩, h3⟩, _⟩ := h
  have key : ∀ (cs : List Nat) (acc : Nat), (∀ c ∈ cs, c ≤ 57) → cs.foldl (fun acc c => acc * 10 + (c - 48)) acc < (acc + 1) * 10 ^ cs.length := by
    intro cs
    induction cs with
    | nil => intro acc _; simp
    | cons c cs ih =>
      intro acc h
      have h1 := ih (acc * 10 + (c - 48)) (fun d hd => h d (List.mem_cons_of_mem _ hd))
      have h2 := h c List.mem_cons_self
      rw [List.foldl_cons, List.length_cons, Nat.pow_succ']
      refine Nat.lt_of_lt_of_le h1 ?_
      rw [← Nat.mul_assoc]
      exact Nat.mul_le_mul_right _ (by omega)
  have h5 := key (tl z) 0 (fun c hc => (dig_range c (h3 c hc)).2)
  have h6 : (10 : Nat) ^ (tl z).length ≤ 10 ^ 12 := Nat.pow_le_pow_right (by decide) (by rw [← str_len]; exact h2)
  unfold dv NumText.digitsVal
  omega
theorem szO_nat {w z : Str} {n : Int} (h : szO w z = some n) : 0 < n ∧ n < 10 ^ 12 := by
  unfold szO at h
  split at h
  · split at h
    · split at h
      · cases h
      · rename_i p0 p1 _ _ _ m e
        split at h
        · cases h
        · rename_i hm
          cases h
          unfold nmO at e
          split at e
          · rename_i hw
            cases e
            refine ⟨?_, ?_⟩
            · have := dv_nat p1
              omega
            · have h2 := numW_bound hw
              omega
          · cases e
    · cases h
  · cases h
/-- what came of it -/
def Res (K : PySem.W.Frag) (H : Hp) (Q : VK) (E : XK) (r : Except Nat Pd) : Prop := (∀ i, r = .error i → Bad K E i) ∧ ∀ d, r = .ok d → ∀ x H', Same H H' → H x = none → PapO K H' x d → Q (.ref x) H'
end K30
-- WIDE
-- RAISES PaperReader.take_lines PaperReader.take read_paper
-- CUTIF read_paper := word, told = reader.take(_subject_of)
-- CUTIF read_paper := subject = (word, told if word == 'place' else reader.take_lines(told))
namespace K30
open PySem PySem.Spec PyProof.Rows L2 Wy WN WQ WS WC WE WO WM W3 W4 WR WXD W30

theorem keep_tk {x C dx : Addr} {fs : List (Str × V)} {H H' : Hp} (k : Keep x H H') (e : H x = some (.ins C dx fs)) : TK H H' := fun b xs h => k b _ (fun z => by
  rw [z, e] at h
  cases h) h
theorem RdO.same {K : PySem.W.Frag} {H H' : Hp} {x dx a : Addr} {ls : List Str} {n : Nat} (s : Same H H') (r : RdO K H x dx a ls n) : RdO K H' x dx a ls n := ⟨s _ _ r.ins, s _ _ r.rows⟩
theorem RdO.ax {K : PySem.W.Frag} {H : Hp} {x dx a : Addr} {ls : List Str} {n : Nat} (r : RdO K H x dx a ls n) : a ≠ x := ne_of r.rows r.ins (fun z => nomatch z)
theorem RdO.chg {K : PySem.W.Frag} {H H' : Hp} {x dx a l : Addr} {ls : List Str} {n : Nat} (r : RdO K H x dx a ls n) (c : Chg l H H') (n1 : l ≠ x) (n2 : l ≠ a) : RdO K H' x dx a ls n := ⟨c.at r.ins n1.symm, c.at r.rows n2.symm⟩
theorem drop_at {α : Type} {ls : List α} {n : Nat} {l : α} {r : List α} (h : ls.drop n = l :: r) : ls[n]? = some l ∧ ls.drop (n + 1) = r ∧ n + 1 + r.length = ls.length := by
  have hl := congrArg List.length h
  rw [List.length_drop, List.length_cons] at hl
  refine ⟨?_, ?_, by omega⟩
  · have := congrArg (fun z : List α => z[0]?) h
    simpa using this
  · rw [← List.drop_drop, h]
    rfl
theorem Res.bad {K : PySem.W.Frag} {H : Hp} {Q : VK} {E : XK} {i : Nat} (h : Res K H Q E (.error i)) : Bad K E i := h.1 i rfl
def finT (zt : Str) (s v : PyData) (ds : List PyData) : Except Nat (List PyData) → Except Nat Pd
  | .error e => .error e
  | .ok ts => .ok ⟨zt, s, v, .tuple (ds ++ ts)⟩
theorem finT_cons (zt : Str) (s v : PyData) (ds : List PyData) (n : Nat) (l : Str) (r : List Str) : finT zt s v ds (toksO n (l :: r)) = if isN (tkO l) = true then .error (n + 1) else finT zt s v (ds ++ [tkO l]) (toksO (n + 1) r) := by
  show finT zt s v ds (if isN (tkO l) = true then .error (n + 1) else match toksO (n + 1) r with
    | .error e => .error e
    | .ok ts => .ok (tkO l :: ts)) = _
  split
  · rfl
  · cases toksO (n + 1) r with
    | error e => rfl
    | ok ts =>
      show Except.ok _ = Except.ok _
      rw [List.append_assoc]
      rfl
theorem readT_cons (c n : Nat) (zt : Str) (s v : PyData) (l : Str) (r : List Str) : readT c n zt s v (l :: r) = finT zt s v [] (toksO n (l :: r)) := rfl
theorem tp_none {H : Hp} {v : V} {d : PyData} (t : Tp H v d) : v = .non ↔ isN d = true := by
  cases t <;> simp [isN]
section
variable {P : Program} {w : World} {K : PySem.W.Frag} {mg : Str → Option Value} {base : Heap}
def spRead (K : PySem.W.Frag) : Sp := fun vs H Q E => ∃ (z : Str) (ls : List Str), vs = [.str z] ∧ Txt.split z NL = ls ∧ z.length ≤ 1000000 ∧ ls.length ≤ 1000 ∧ (∀ l ∈ ls, Row l) ∧ Res K H Q E (readO ls)
theorem k_read_paper (T : Tx K mg) (pf : WBX.PF P fileP) : WF.CalX P w K mg base 8 "read_paper" (spRead K) [] := by
  refine WF.cal_ofX (N := n_read_paper) T.d_read_paper sc_read_paper (fun _ _ F => F.bindsN fun _ _ _ _ _ _ us hl => match us, hl with | [_], _ => rfl) (fun vs H Q E h => ?_) (fun f cdv A outer s H vs Q E hr h => ?_)
  · obtain ⟨_, _, rfl, _⟩ := h
    rfl
  · obtain ⟨z, ls, rfl, es, lz, hll, hrow, q⟩ := h
    refine ⟨_, (pss_cons (ps_asg (C8.pe_mk (k_PaperReader___init (K := K) T) hr (by first | decide | omega) (by rfl) (pa_cons (WC.pe_bmK (K := K) PySem.F.plainAttrs_str PySem.F.slot_str_split PySem.F.type_str_split (WV.mt_split1 : MtR _ _ WV.rSplit1) (pv 0) (pa_cons pe_str pa_nil)) pa_nil)) (pg_name (i := 1) sc_read_paper.nd rfl (Or.inl rfl))) (pss_cons (ps_asg (WF.pe_mtR (k_PaperReader_take_lines (K := K) T pf) (takes_of rfl rfl rfl rfl) hr (by first | decide | omega) (pv 1) (pa_cons (WF.pe_mtR (k_PaperReader_take (K := K) T pf) (takes_of rfl rfl rfl rfl) hr (by first | decide | omega) (pv 1) (pa_cons (WV.pe_fn T.d_text_size (by rfl)) pa_nil)) pa_nil)) (pg_name (i := 2) sc_read_paper.nd rfl (Or.inl rfl))) (C8.pss_cut (ps_asg (WF.pe_mtR (k_PaperReader_take (K := K) T pf) (takes_of rfl rfl rfl rfl) hr (by first | decide | omega) (pv 1) (pa_cons (WV.pe_fn T.d_subject_of (by rfl)) pa_nil)) (pg_tup (by rfl) (pgs_cons (pg_name (i := 3) sc_read_paper.nd rfl (Or.inl rfl)) (pgs_cons (pg_name (i := 4) sc_read_paper.nd rfl (Or.inl rfl)) pgs_nil)) : PG _ _ (gTup K _ _))) (C8.pss_cut (ps_asg (pe_tup (pa_cons (pv 3) (pa_cons (pe_ifExp (pt_cmpR (op_eq2 hr.units : OpR _ _ (rEq2 K)) (pv 3) pe_str (nomark _)) (pv 4) (WF.pe_mtR (k_PaperReader_take_lines (K := K) T pf) (takes_of rfl rfl rfl rfl) hr (by first | decide | omega) (pv 1) (pa_cons (pv 4) pa_nil))) pa_nil))) (pg_name (i := 5) sc_read_paper.nd rfl (Or.inl rfl))) (pss_cons (ps_asg (WF.pe_mtR (k_PaperReader_take (K := K) T pf) (takes_of rfl rfl rfl rfl) hr (by first | decide | omega) (pv 1) (pa_cons (WV.pe_fn T.d_verdict_of_line (by rfl)) pa_nil)) (pg_name (i := 6) sc_read_paper.nd rfl (Or.inl rfl))) (pss_cons (ps_asg (pe_lst (pa_cons (WF.pe_mtR (k_PaperReader_take (K := K) T pf) (takes_of rfl rfl rfl rfl) hr (by first | decide | omega) (pv 1) (pa_cons (WV.pe_fn T.d_token_of (by rfl)) pa_nil)) pa_nil)) (pg_name (i := 7) sc_read_paper.nd rfl (Or.inl rfl))) (pss_cons (ps_while (passes_of rfl) (pt_not (pt_tr (C8.pe_mt0 (k_PaperReader_is_done (K := K) T) hr (by first | decide | omega) (pv 1)) : PT _ _ (tTr K _))) (pss_one (ps_expr (pe_bm PySem.F.plainAttrs_list PySem.F.slot_list_append PySem.F.type_list_append mt_append (pv 7) (pa_cons (WF.pe_mtR (k_PaperReader_take (K := K) T pf) (takes_of rfl rfl rfl rfl) hr (by first | decide | omega) (pv 1) (pa_cons (WV.pe_fn T.d_token_of (by rfl)) pa_nil)) pa_nil) : PE _ _ (tBM K _ _ _ _))))) (pss_one (ps_ret (C8.pe_mk (k_Paper___init (K := K) T) hr (by first | decide | omega) (by rfl) (pa_cons (pv 2) (pa_cons (pv 5) (pa_cons (pv 6) (pa_cons (pe_callTy (W6.call_tup2 : CallR _ _ (W6.rTup K)) (by rfl) T.z_tuple (by decide +kernel) (pa_cons (pv 7) pa_nil)) pa_nil)))))))))))))), ?_⟩
    have cl := T.c_PaperReader
    have hls : ∀ l ∈ ls, l.length ≤ 2000 := fun l hl => (hrow l hl).l
    walk_at "xx"
    refine ⟨rfl, ?_⟩
    walk_at "xx"
    refine WV.m_split (by decide +kernel) (by rw [sizeLine_eq]; omega) fun a H1 na s1 e1 => ?_
    rw [es] at e1
    walk_at "xx"
    refine k_make fun x dx H2 nx nd _ s2 e2 _ => ?_
    refine ⟨x, dx, a, ls, rfl, e2, s2 _ _ e1, fun H3 k3 rd => ⟨rfl, ?_⟩⟩
    have K3 : Keep x H H3 := (s1.trans s2).keep.trans k3
    have hx : H x = none := s1.free nx
    have ex := rd.ins
    clear k3 e1 e2 s2 nx nd na s1
    obtain ⟨l0, r0, hc⟩ : ∃ l0 r0, ls = l0 :: r0 := by
      cases ls with
      | nil =>
        rw [split_any (s := 10) (by decide +kernel) (by decide +kernel)] at es
        exact absurd (List.map_eq_nil_iff.mp es) (pcs_ne 10 _)
      | cons l r => exact ⟨l, r, rfl⟩
    have h0 : ls[0]? = some l0 := by rw [hc]; rfl
    have hlen : r0.length + 1 = ls.length := by rw [hc, List.length_cons]
    have hd0 : ∀ k, ls.drop (1 + k) = r0.drop k := fun k => by rw [hc, Nat.add_comm, List.drop_succ_cons]
    have q : Res K H Q E (match szO "text" l0 with
      | none => .error 1
      | some k => if k.toNat ≤ r0.length then readS ls.length (1 + k.toNat) (Txt.join NL (r0.take k.toNat)) (r0.drop k.toNat) else .error (ls.length + 1)) := by
      rw [← hlen]
      rw [hc] at q
      exact q
    walk_at "xx"
    refine ⟨x, dx, a, _, _, _, 0, rfl, held_size T, rd, Nat.zero_le _, hll, hls, (fun z => by rw [h0] at z; cases z), fun l el H4 k4 rd4 Q' hq => ?_⟩
    rw [h0] at el
    cases el
    refine ⟨l0, rfl, hrow l0 (List.mem_of_getElem? h0), fun H5 s5 => ?_⟩
    have rd5 := rd4.same s5
    have K5 : Keep x H H5 := (K3.trans k4).trans s5.keep
    clear k4 rd4 s5 rd ex K3
    cases e0 : szO "text" l0 with
    | none =>
      rw [e0] at q
      exact hq _ _ rd5 (fun z => absurd rfl z) fun _ => q.bad
    | some k =>
    rw [e0] at q
    obtain ⟨k0, k1⟩ := szO_nat e0
    obtain ⟨k, rfl⟩ : ∃ m : Nat, k = m := ⟨k.toNat, by omega⟩
    have q : Res K H Q E (if k ≤ r0.length then readS ls.length (1 + k) (Txt.join NL (r0.take k)) (r0.drop k) else .error (ls.length + 1)) := q
    refine hq _ _ rd5 (fun _ => ?_) fun z => nomatch z
    walk_at "xx"
    refine ⟨x, dx, a, _, 1, k, rfl, rd5, by omega, hll, by omega, hls, fun hk H6 k6 rd6 => ?_, fun hk => ?_⟩
    rotate_left
    · rw [if_neg (by omega)] at q
      exact q.bad
    rw [if_pos (by omega)] at q
    have et : (ls.drop 1).take k = r0.take k := by rw [hd0 0, List.drop_zero]
    rw [et]
    have K6 := K5.trans k6
    have ex6 := rd6.ins
    clear k6 rd5 K5 hq
    have hdrop := hd0 k
    generalize Txt.join NL (r0.take k) = zt at q ⊢
    generalize r0.drop k = r at q hdrop
    generalize 1 + k = n at q rd6 hdrop hk
    clear et hlen h0 hd0 e0 k0 k1 hc
    walk_at "xx"
    refine s_cut (fun σ H' => ∃ (wd : Str) (tv : V), σ = [some (.str z), some (.ref x), some (.str zt), some (.str wd), some (tv), none, none, none] ∧ Keep x H H' ∧ RdO K H' x dx a ls (n + 1) ∧
      ∃ (l : Str) (r1 : List Str), ls.drop (n + 1) = r1 ∧ n + 1 + r1.length = ls.length ∧ ((∃ t, wd = "place" ∧ tv = .str t ∧ Res K H Q E (readV ls.length (n + 1) zt (.tuple [.str "place", .str t]) r1)) ∨ ∃ k : Nat, wd = "apart" ∧ k < 10 ^ 12 ∧ tv = .int (k : Int) ∧ Res K H Q E (if k ≤ r1.length then readV ls.length (n + 1 + k) zt (.tuple [.str "apart", .str (Txt.join NL (r1.take k))]) (r1.drop k) else .error (ls.length + 1)))) ?_ (fun σ H7 p7 => ?_)
    · walk_at "xx"
      refine ⟨x, dx, a, _, _, _, n, rfl, held_subj T, rd6, hk, hll, hls, fun e => ?_, fun l el H7 k7 rd7 Q' hq => ?_⟩
      · have : r = [] := by
          rw [← hdrop]
          exact List.drop_eq_nil_of_le (List.getElem?_eq_none_iff.mp e)
        rw [this] at q
        exact q.bad
      have hdr : ls.drop n = l :: ls.drop (n + 1) := by
        rw [List.drop_eq_getElem_cons (List.getElem?_eq_some_iff.mp el).1, (List.getElem?_eq_some_iff.mp el).2]
      rw [hdr] at hdrop
      subst hdrop
      obtain ⟨_, _, h3⟩ := drop_at hdr
      refine ⟨l, rfl, hrow l (List.mem_of_getElem? el), fun v H8 s8 tv => ?_⟩
      have q : Res K H Q E (if Txt.startswith l "place " = true then readV ls.length (n + 1) zt (.tuple [.str "place", .str (cutS l (some 6) none)]) (ls.drop (n + 1))
        else match szO "apart" l with
        | none => .error (n + 1)
        | some k => if k.toNat ≤ (ls.drop (n + 1)).length then readV ls.length (n + 1 + k.toNat) zt (.tuple [.str "apart", .str (Txt.join NL ((ls.drop (n + 1)).take k.toNat))]) ((ls.drop (n + 1)).drop k.toNat) else .error (ls.length + 1)) := q
      have rd8 := rd7.same s8
      have K8 := (K6.trans k7).trans s8.keep
      unfold sbO at tv
      cases e : Txt.startswith l "place " with
      | true =>
        rw [e, if_pos rfl] at q tv
        obtain ⟨b, v1, v2, rfl, eb, t1, t2⟩ := tp2 tv
        cases t1
        cases t2
        refine hq _ _ rd8 (fun _ => ?_) fun z => nomatch z
        walk_at "xx"
        exact ⟨_, _, rfl, K8, rd8, l, _, rfl, h3, .inl ⟨_, rfl, rfl, q⟩⟩
      | false =>
        rw [e, if_neg Bool.false_ne_true] at q tv
        cases e2 : szO "apart" l with
        | none =>
          rw [e2] at q tv
          cases tv
          exact hq _ _ rd8 (fun z => absurd rfl z) fun _ => q.bad
        | some k =>
          rw [e2] at q tv
          obtain ⟨k0, k1⟩ := szO_nat e2
          obtain ⟨k, rfl⟩ : ∃ m : Nat, k = m := ⟨k.toNat, by omega⟩
          obtain ⟨b, v1, v2, rfl, eb, t1, t2⟩ := tp2 tv
          cases t1
          cases t2
          refine hq _ _ rd8 (fun _ => ?_) fun z => nomatch z
          walk_at "xx"
          exact ⟨_, _, rfl, K8, rd8, l, _, rfl, h3, .inr ⟨k, rfl, by omega, rfl, q⟩⟩
    obtain ⟨wd, tv, rfl, K7, rd7, l, r1, hr1, hl1, h7⟩ := p7
    have ex7 := rd7.ins
    clear K6 rd6 ex6 q hdrop hk r l
    refine s_cut (fun σ H' => ∃ (sv : V) (n : Nat) (r : List Str) (sd : PyData), σ = [some (.str z), some (.ref x), some (.str zt), some (.str wd), some (tv), some (sv), none, none] ∧ Keep x H H' ∧ RdO K H' x dx a ls n ∧ Tp H' sv sd ∧ ls.drop n = r ∧ n + r.length = ls.length ∧ Res K H Q E (readV ls.length n zt sd r)) ?_ (fun σ H8 p8 => ?_)
    · rcases h7 with ⟨t, rfl, rfl, q⟩ | ⟨k, rfl, k1, rfl, q⟩
      · walk_at "xx"
        rename_i b H8 n8 s8 e8
        exact ⟨_, _, _, _, rfl, K7.trans s8.keep, rd7.same s8, .tup e8 (.cons (.str _) (.cons (.str _) .nil)), hr1, hl1, q⟩
      · walk_at "xx"
        refine ⟨x, dx, a, ls, _, k, rfl, rd7, by omega, hll, by omega, hls, fun hk H8 k8 rd8 => ?_, fun hk => ?_⟩
        · rw [if_pos (by omega)] at q
          rw [hr1]
          walk_at "xx"
          rename_i b H9 n9 s9 e9
          refine ⟨_, _, _, _, rfl, (K7.trans k8).trans s9.keep, rd8.same s9, .tup e9 (.cons (.str _) (.cons (.str _) .nil)), ?_, ?_, q⟩
          · rw [← hr1, List.drop_drop]
          · rw [List.length_drop]
            omega
        · rw [if_neg (by omega)] at q
          exact q.bad
    obtain ⟨sv, n, r, sd, rfl, K8, rd8, ts8, hr, hl, q⟩ := p8
    have ex8 := rd8.ins
    clear K7 rd7 ex7 h7 hr1 hl1 r1
    walk_at "xx"
    refine ⟨x, dx, a, _, _, _, n, rfl, held_verd T, rd8, by omega, hll, hls, fun e => ?_, fun l el H9 k9 rd9 Q' hq => ?_⟩
    · have : r = [] := by
        rw [← hr]
        exact List.drop_eq_nil_of_le (List.getElem?_eq_none_iff.mp e)
      rw [this] at q
      exact q.bad
    have hdr : ls.drop n = l :: ls.drop (n + 1) := by
      rw [List.drop_eq_getElem_cons (List.getElem?_eq_some_iff.mp el).1, (List.getElem?_eq_some_iff.mp el).2]
    rw [hdr] at hr
    subst hr
    obtain ⟨_, _, h3⟩ := drop_at hdr
    refine ⟨l, rfl, hrow l (List.mem_of_getElem? el), fun vv H10 s10 tv10 => ?_⟩
    have rd10 := rd9.same s10
    have q : Res K H Q E (if isN (vdO l) = true then .error (n + 1) else readT ls.length (n + 1) zt sd (vdO l) (ls.drop (n + 1))) := q
    refine hq _ _ rd10 (fun nv => ?_) (fun nv => ?_)
    rotate_left
    · rw [if_pos ((tp_none tv10).mp nv)] at q
      exact q.bad
    rw [if_neg (fun z => nv ((tp_none tv10).mpr z))] at q
    have K10 := (K8.trans k9).trans s10.keep
    have ts10 := (ts8.tk (keep_tk k9 ex8)).tk s10.tk
    have ex10 := rd10.ins
    clear K8 rd8 ts8 rd9 k9 s10 ex8 hq hdr
    generalize vdO l = vd at q tv10
    generalize hr : ls.drop (n + 1) = r at q h3
    generalize n + 1 = n at q h3 hr rd10
    clear nv
    walk_at "xx"
    refine ⟨x, dx, a, _, _, _, n, rfl, held_tok T, rd10, by omega, hll, hls, fun e => ?_, fun l el H11 k11 rd11 Q' hq => ?_⟩
    · have : r = [] := by
        rw [← hr]
        exact List.drop_eq_nil_of_le (List.getElem?_eq_none_iff.mp e)
      rw [this] at q
      exact q.bad
    have hdr : ls.drop n = l :: ls.drop (n + 1) := by
      rw [List.drop_eq_getElem_cons (List.getElem?_eq_some_iff.mp el).1, (List.getElem?_eq_some_iff.mp el).2]
    rw [hdr] at hr
    subst hr
    rw [readT_cons, finT_cons] at q
    obtain ⟨_, _, h4⟩ := drop_at hdr
    refine ⟨l, rfl, hrow l (List.mem_of_getElem? el), fun v0 H12 s12 t12 => ?_⟩
    have rd12 := rd11.same s12
    refine hq _ _ rd12 (fun nv => ?_) (fun nv => ?_)
    rotate_left
    · rw [if_pos ((tp_none t12).mp nv)] at q
      exact q.bad
    rw [if_neg (fun z => nv ((tp_none t12).mpr z))] at q
    have K12 := (K10.trans k11).trans s12.keep
    have ts12 := (ts10.tk (keep_tk k11 ex10)).tk s12.tk
    have tv12 := (tv10.tk (keep_tk k11 ex10)).tk s12.tk
    clear K10 rd10 ts10 rd11 k11 s12 ex10 tv10 hq hdr
    walk_at "xx"
    rename_i b H13 n13 s13 e13
    have rd13 := rd12.same s13
    have hlx : b ≠ x := (ne_of_none rd12.ins n13).symm
    have hla : b ≠ a := (ne_of_none rd12.rows n13).symm
    have hlH : H b = none := by
      refine Classical.byContradiction fun z => ?_
      obtain ⟨o, ho⟩ := Option.ne_none_iff_exists'.mp z
      have := K12 b o hlx ho
      rw [n13] at this
      cases this
    refine s_while (fun m σ H' => ∃ (us : List V) (ds : List PyData) (n : Nat) (r : List Str), m = r.length ∧ ls.drop n = r ∧ n + r.length = ls.length ∧ us.length ≤ n ∧ σ = [some (.str z), some (.ref x), some (.str zt), some (.str wd), some (tv), some (sv), some (vv), some (.ref b)] ∧ Same H H' ∧ RdO K H' x dx a ls n ∧ Tp H' sv sd ∧ Tp H' vv vd ∧ H' b = some (.lst us) ∧ TpAll H' us ds ∧ Res K H Q E (finT zt sd vd ds (toksO n r))) (ls.drop (n + 1)).length ?_ fun m σ H' hW => ?_
    · exact ⟨[v0], [tkO l], n + 1, _, rfl, rfl, h4, by show 1 ≤ n + 1; omega, rfl, fun b o e => s13 _ _ (K12 b o (fun z => by rw [z, hx] at e; cases e) e), rd13, ts12.tk s13.tk, tv12.tk s13.tk, e13, .cons (t12.tk s13.tk) .nil, q⟩
    · clear rd12 rd13 ts12 tv12 s13 e13 n13 t12 K12 q h4 nv h3
      obtain ⟨us, ds, n, r, rfl, hr, h4, hus, rfl, S, rdw, tsw, tvw, ew, tw, q⟩ := hW
      have exw := rdw.ins
      walk_at "xx"
      refine ⟨x, dx, a, _, _, rfl, rdw, ?_⟩
      walk_at "xx"
      cases r with
      | nil =>
        rw [List.length_nil] at h4
        rw [decide_eq_true (by omega)]
        walk_at "xx"
        refine tp_new (lst_of ew) fun tp H14 n14 s14 e14 => ?_
        walk_at "xx"
        have clP := T.c_Paper
        refine k_make fun y dy H15 ny nd _ s15 e15 _ => ?_
        refine ⟨y, dy, _, _, _, _, rfl, e15, fun H16 k16 e16 => ⟨rfl, ?_⟩⟩
        have k16 : Keep y H15 H16 := k16
        have S15 := S.trans (s14.trans s15)
        have hy : H y = none := S.free (s14.free ny)
        have tk16 : TK H' H16 := (s14.trans s15).tk.trans (keep_tk k16 e15)
        have tk14 : TK H14 H16 := s15.tk.trans (keep_tk k16 e15)
        refine q.2 _ rfl y H16 (fun b o e => k16 b o (fun z => by rw [z, hy] at e; cases e) (S15 _ _ e)) hy ⟨dy, _, _, _, e16, tsw.tk tk16, tvw.tk tk16, ?_⟩
        rw [List.append_nil]
        exact .tup (tk14 _ _ e14) (tw.tk tk16)
      | cons l r =>
        obtain ⟨el, hr2, h5⟩ := drop_at hr
        rw [decide_eq_false (by omega)]
        walk_at "xx"
        refine k_while ?_
        walk_at "xx"
        refine m_ty (lst_of ew) ?_
        walk_at "xx"
        refine ⟨x, dx, a, _, _, _, n, rfl, held_tok T, rdw, by omega, hll, hls, fun e => ?_, fun l2 el2 H11 k11 rd11 Q' hq => ?_⟩
        · rw [el] at e
          cases e
        rw [el] at el2
        cases el2
        rw [finT_cons] at q
        refine ⟨l, rfl, hrow l (List.mem_of_getElem? el), fun v1 H12 s12 t12 => ?_⟩
        have rd12 := rd11.same s12
        refine hq _ _ rd12 (fun nv => ?_) (fun nv => ?_)
        rotate_left
        · rw [if_pos ((tp_none t12).mp nv)] at q
          exact q.bad
        rw [if_neg (fun z => nv ((tp_none t12).mpr z))] at q
        have k11 : Keep x H' H11 := k11
        have tk := (keep_tk k11 exw).trans s12.tk
        have e12 := s12 _ _ (k11 _ _ hlx ew)
        walk_at "xx"
        refine m_app e12 (small1000' (by omega)) fun H17 c17 e17 => ?_
        have S12 : Same H H12 := fun b o e => s12 _ _ (k11 b o (fun z => by rw [z, hx] at e; cases e) (S _ _ e))
        have tk17 : TK H' H17 := tk.trans (c17.tk e12)
        walk_at "xx"
        refine ⟨_, by rw [List.length_cons]; exact Nat.lt_succ_self _, us ++ [v1], ds ++ [tkO l], n + 1, r, rfl, hr2, h5, by rw [List.length_append]; exact Nat.add_le_add_right hus 1, rfl, c17.same S12 hlH, (rd12).chg c17 hlx hla, tsw.tk tk17, tvw.tk tk17, e17, tpApp (tw.tk tk17) (.cons (t12.tk (c17.tk e12)) .nil), q⟩
end
end K30
-- WIDE
namespace K30
open PySem PySem.Spec PyProof.Rows L2 Wy WN WQ WS WC WE WO WM W3 W4 WR WXD

section
variable {P : Program} {w : World} {K : PySem.W.Frag} {mg : Str → Option Value} {base : Heap}
def spLNum : Sp := fun vs H Q _ => ∃ d : Int, vs = [.int d] ∧ 0 ≤ d ∧ d < 10 ^ 20 ∧ ∀ n : Nat, n < 10 ^ 12 → Q (.int (n : Int)) H
theorem k_law_number (T : Tx K mg) : C8.Cal P w K mg base 1 "_law_number" spLNum [] := by
  refine cal_of (N := n_law_number) T.d_law_number sc_law_number (fun _ _ F => F.bindsN fun _ _ _ _ _ _ us hl => match us, hl with | [_], _ => rfl) (fun vs H Q E h => ?_) (fun f cdv A outer s H vs Q E hr h => ?_)
  · obtain ⟨_, rfl, _⟩ := h
    rfl
  · obtain ⟨d, rfl, d0, d1, q⟩ := h
    have fin : ∀ i : Int, 0 ≤ i → i < 10 ^ 12 → Q (.int i) H := fun i h0 h1 => by
      have := q i.toNat (by omega)
      rwa [Int.toNat_of_nonneg h0] at this
    refine ⟨_, (pss_cons (ps_if (pt_cmpR (op_eq2 hr.units : OpR _ _ (rEq2 K)) (pe_op op_mod (pe_callTy call_int2 (by rfl) T.z_int (by decide +kernel) (pa_cons (pv 0) pa_nil)) pe_int) pe_int (nomark _)) (pss_one (ps_ret (pe_op op_mod (pe_callTy call_int2 (by rfl) T.z_int (by decide +kernel) (pa_cons (pe_op op_fdivW (pv 0) pe_int) pa_nil)) (pe_op op_pow pe_int pe_int)))) pss_nil) (pss_cons (ps_if (pt_cmpR (op_eq2 hr.units : OpR _ _ (rEq2 K)) (pe_op op_mod (pe_callTy call_int2 (by rfl) T.z_int (by decide +kernel) (pa_cons (pv 0) pa_nil)) pe_int) pe_int (nomark _)) (pss_one (ps_ret (pe_op op_sub (pe_op op_pow pe_int pe_int) pe_int))) pss_nil) (pss_one (ps_ret (pe_op op_mod (pe_callTy call_int2 (by rfl) T.z_int (by decide +kernel) (pa_cons (pe_op op_fdivW (pv 0) pe_int) pa_nil)) pe_int))))), ?_⟩
    walk_at "xx"
    refine iteI (fun e => ?_) (fun e => ?_)
    · walk_at "xx"
      refine o_mod (by decide +kernel) ?_
      exact fin _ (Int.emod_nonneg _ (by decide +kernel)) (Int.emod_lt_of_pos _ (by decide +kernel))
    walk_at "xx"
    refine iteI (fun e => ?_) (fun e => ?_)
    · walk_at "xx"
      exact fin _ (by decide +kernel) (by decide +kernel)
    walk_at "xx"
    exact fin _ (Int.emod_nonneg _ (by decide)) (Int.lt_of_lt_of_le (Int.emod_lt_of_pos _ (by decide)) (by decide))
end
end K30
-- WIDE
namespace K30
open PySem PySem.Spec PyProof.Rows L2 Wy WN WQ WS WC WE WO WM W3 W4 WR WXD

/-- a row that the law makes -/
structure RowOk (m : Nat) (z : Str) : Prop where
  no : 10 ∉ tl z
  len : z.length ≤ m
  ok : ∀ c ∈ tl z, c < 128
def rowB (z : Str) : Bool := decide (10 ∉ tl z) && decide (z.length ≤ 20) && decide (∀ c ∈ tl z, c < 128)
theorem rowOk_of {z : Str} (h : rowB z = true) : RowOk 20 z := by
  unfold rowB at h
  simp only [Bool.and_eq_true, decide_eq_true_eq] at h
  exact ⟨h.1.1, h.1.2, h.2⟩
def TR : List Str := ["on", "none", "found 1", "place row 1", "text 2", "over", "dead 1", "met 1,2", "apart 1", "", " ", "end"]
theorem tr_at {j : Nat} (h : j < 12) : ∃ z, (TR.map V.str)[j]? = some (.str z) ∧ RowOk 20 z := by
  have key : ∀ j, j < 12 → rowB (TR.getD j "") = true := by decide +kernel
  have e : TR[j]? = some (TR.getD j "") := by
    rw [List.getD_eq_getElem?_getD, List.getElem?_eq_getElem (by exact h)]
    rfl
  exact ⟨TR.getD j "", by rw [List.getElem?_map, e]; rfl, rowOk_of (key j h)⟩
abbrev SG : Str := "abcdefghijklmnopqrstuvwxyz 0123456789<>=!+-()[],:;._~#&*/?@ABCXYZ"
theorem sg_mem {c : Nat} (h : c ∈ tl SG) : c ≠ 10 ∧ c < 128 := by
  have : ∀ c ∈ tl SG, c ≠ 10 ∧ c < 128 := by decide +kernel
  exact this c h
theorem row_snoc {z : Str} {c : Nat} {i : Nat} (h : RowOk 20 z) (hl : z.length ≤ i) (hi : i < 15) (hc : c ∈ tl SG) : RowOk 20 (z ++ ⟨#[c]⟩) ∧ (z ++ (⟨#[c]⟩ : Str)).length ≤ i + 1 := by
  have l1 : (⟨#[c]⟩ : Str).length = 1 := rfl
  have t1 : tl (⟨#[c]⟩ : Str) = [c] := rfl
  refine ⟨⟨?_, ?_, ?_⟩, ?_⟩
  · rw [tl_app, t1]
    simp only [List.mem_append, List.mem_singleton, not_or]
    exact ⟨h.no, fun e => (sg_mem hc).1 e.symm⟩
  · rw [app_len, l1]
    omega
  · intro x hx
    rw [tl_app, t1] at hx
    simp only [List.mem_append, List.mem_singleton] at hx
    rcases hx with hx | rfl
    · exact h.ok x hx
    · exact (sg_mem hc).2
  · rw [app_len, l1]
    omega
theorem One.intsR {P : Nat → V → Hp → Prop} {R : Int → Prop} {n : Nat} {acc : List V} {H : Hp} (o : One P n acc H) (h : ∀ j y, j < n → P j y H → ∃ i : Int, R i ∧ y = .int i) : ∃ xs : List Int, acc = xs.map V.int ∧ xs.length = n ∧ ∀ x ∈ xs, R x := by
  obtain ⟨xs, rfl, hl⟩ := One.ints o fun j y hj hp => (h j y hj hp).imp fun i hi => hi.2
  refine ⟨xs, rfl, hl, fun x hx => ?_⟩
  obtain ⟨j, hj, e⟩ := List.getElem_of_mem hx
  obtain ⟨i, hi, ei⟩ := h j (.int x) (by omega) (o.2 j _ (by rw [List.getElem?_map, List.getElem?_eq_getElem hj, e]; rfl))
  rw [V.int.inj ei]
  exact hi
theorem One.data {α : Type} {F : α → PyData} {R : α → Prop} {H : Hp} : ∀ {n : Nat} {acc : List V}, One (fun _ y H => ∃ a, R a ∧ Tp H y (F a)) n acc H → ∃ as : List α, TpAll H acc (as.map F) ∧ as.length = n ∧ ∀ a ∈ as, R a
  | n, [], o => ⟨[], .nil, o.1, fun _ h => absurd h (by simp)⟩
  | n, y :: r, o => by
    obtain ⟨a, ha, ta⟩ := o.2 0 y rfl
    obtain ⟨as, t, hl, hr⟩ := One.data (n := r.length) (acc := r) ⟨rfl, fun j z e => o.2 (j + 1) z (by simpa using e)⟩
    have := o.1
    exact ⟨a :: as, .cons ta t, by rw [List.length_cons, hl]; simpa using this, fun x hx => by
      rcases List.mem_cons.mp hx with rfl | hx
      · exact ha
      · exact hr x hx⟩
section
variable {K : PySem.W.Frag} {σ : L2.St} {H : Hp} {Q : VK} {te : TE} {vs : List Nat} {i : Nat} {a : Addr}
/-- an int from each int of a list, with what is known of both -/
theorem c_intsM {R : Int → Prop} {xs : List Int} (hs : SqL K H a (xs.map V.int)) (hte : ∀ (x : Int) H (N : VK), x ∈ xs → (∀ r : Int, R r → N (.int r) H) → te ((wipe σ vs).set i (some (.int x))) H N) (hz : xs.length ≤ 100000) (hw : ∀ x, wipe ((wipe σ vs).set i (some x)) vs = wipe σ vs)
    (post : ∀ D H2 (rs : List Int), H D = none → Same H H2 → rs.length = xs.length → (∀ r ∈ rs, R r) → H2 D = some (.lst (rs.map V.int)) → Q (.ref D) H2) : LoopC (Itl K a) (gName i) tYes te vs σ H Q := by
  refine c_acc (xs := xs.map V.int) (.inl ⟨rfl, hs⟩) (One fun _ y _ => ∃ r : Int, R r ∧ y = .int r) (fun _ _ _ _ _ h => h) (fun i acc H hi h => small1000' (by rw [h.1]; rw [List.length_map] at hi; omega)) One.zero (fun j x H1 acc N M hx s1 o hN hM => ?_) (fun D H1 ys nD s1 e1 o => ?_)
  · rw [List.getElem?_map] at hx
    obtain ⟨d, gd, rfl⟩ := Option.map_eq_some_iff.mp hx
    refine g_name ⟨hw _, t_yes ?_⟩
    exact iteTT rfl (hte _ _ _ (List.mem_of_getElem? gd) fun r hr => hN _ _ (Same.refl _) (o.snoc (fun _ _ h => h) ⟨r, hr, rfl⟩))
  · rw [List.length_map] at o
    obtain ⟨rs, rfl, lr, hr⟩ := One.intsR o fun _ _ _ h => h
    exact post D H1 rs nD s1 lr hr e1
end
theorem nats_of {H : Hp} {a : Addr} {rs : List Int} (h : ∀ r ∈ rs, 0 ≤ r) (e : H a = some (.tup (rs.map V.int))) : Tp H (.ref a) (natsD (rs.map Int.toNat)) := by
  have e2 : (rs.map Int.toNat).map (fun n : Nat => PyData.int (n : Int)) = rs.map PyData.int := by
    rw [List.map_map]
    refine List.map_congr_left fun r hr => ?_
    show PyData.int ((r.toNat : Nat) : Int) = _
    rw [Int.toNat_of_nonneg (h r hr)]
  unfold natsD
  rw [e2]
  exact .tup e (tp_ints rs)
section
variable {P : Program} {w : World} {K : PySem.W.Frag} {mg : Str → Option Value} {base : Heap}
def spLRow : Sp := fun vs H Q _ => ∃ (a : Addr) (d0 d1 : Int), vs = [.ref a] ∧ H a = some (.lst [.int d0, .int d1]) ∧ 0 ≤ d0 ∧ d0 < 60 ∧ ∀ z H', Same H H' → RowOk 20 z → Q (.str z) H'
theorem k_law_row (T : Tx K mg) : C8.Cal P w K mg base 1 "_law_row" spLRow [] := by
  refine cal_of (N := n_law_row) T.d_law_row sc_law_row (fun _ _ F => F.bindsN fun _ _ _ _ _ _ us hl => match us, hl with | [_], _ => rfl) (fun vs H Q E h => ?_) (fun f cdv A outer s H vs Q E hr h => ?_)
  · obtain ⟨_, _, _, rfl, _⟩ := h
    rfl
  · obtain ⟨a, d0, d1, rfl, ea, l0, u0, q⟩ := h
    refine ⟨_, (pss_cons (ps_asg (pe_lst (pa_cons pe_str (pa_cons pe_str (pa_cons pe_str (pa_cons pe_str (pa_cons pe_str (pa_cons pe_str (pa_cons pe_str (pa_cons pe_str (pa_cons pe_str (pa_cons pe_str (pa_cons pe_str (pa_cons pe_str pa_nil))))))))))))) (pg_name (i := 1) sc_law_row.nd rfl (Or.inl rfl))) (pss_cons (ps_if (pt_cmpR op_lt (pe_ix (ix_seq : IxR _ (rIx K)) (pv 0) pe_int (fun _ _ => rfl)) pe_int (nomark _)) (pss_one (ps_ret (pe_ix (ix_seq : IxR _ (rIx K)) (pv 1) (pe_op op_fdivW (pe_ix (ix_seq : IxR _ (rIx K)) (pv 0) pe_int (fun _ _ => rfl)) pe_int) (fun _ _ => rfl)))) pss_nil) (pss_cons (ps_asg pe_str (pg_name (i := 2) sc_law_row.nd rfl (Or.inl rfl))) (pss_cons (ps_asg (pe_ix (ix_seq : IxR _ (rIx K)) (pv 0) pe_int (fun _ _ => rfl)) (pg_name (i := 3) sc_law_row.nd rfl (Or.inl rfl))) (pss_cons (ps_asg pe_str (pg_name (i := 4) sc_law_row.nd rfl (Or.inl rfl))) (pss_cons (ps_for PassesOwn.never rfl (pi_range1 (by rfl) T.z_range (pa_cons (pe_op op_mod (pe_callTy call_int2 (by rfl) T.z_int (by decide +kernel) (pa_cons (pe_ix (ix_seq : IxR _ (rIx K)) (pv 0) pe_int (fun _ _ => rfl)) pa_nil)) pe_int) pa_nil)) (pg_name (i := 5) sc_law_row.nd rfl (Or.inl rfl)) (pss_cons (ps_asg (pe_op op_add3 (pv 4) (pe_ix (ix_seq : IxR _ (rIx K)) (pv 2) (pe_op op_mod (pe_callTy call_int2 (by rfl) T.z_int (by decide +kernel) (pa_cons (pv 3) pa_nil)) (pe_callB (call_len2 : CallR _ _ (rLn K)) (by rfl) T.z_len (by decide +kernel) (pa_cons (pv 2) pa_nil))) (fun _ _ => rfl))) (pg_name (i := 4) sc_law_row.nd rfl (Or.inl rfl))) (pss_one (ps_asg (pe_op op_fdivW (pv 3) (pe_callB (call_len2 : CallR _ _ (rLn K)) (by rfl) T.z_len (by decide +kernel) (pa_cons (pv 2) pa_nil))) (pg_name (i := 3) sc_law_row.nd rfl (Or.inl rfl)))))) (pss_one (ps_ret (pv 4))))))))), ?_⟩
    walk_at "xx"
    rename_i tr H1 n1 s1 e1
    have e1 : H1 tr = some (.lst (TR.map V.str)) := e1
    have ea1 := s1 _ _ ea
    refine iteD (fun e => ?_) (fun e => ?_)
    · walk_at "xx"
      obtain ⟨z, g, hz⟩ := tr_at (j := (d0 / 2).toNat) (by omega)
      refine o_ixL (lst_of e1) (atI_of (j := (d0 / 2).toNat) (by omega) g) ?_
      exact q z _ s1 hz
    walk_at "xx"
    have hs : SG.length ≤ sizeLine := by rw [sizeLine_eq]; decide +kernel
    have l65 : SG.length = 65 := by decide +kernel
    refine f_range (fun i σ H' => ∃ (n : Int) (z : Str) (x : Option V), σ = [some (.ref a), some (.ref tr), some (.str SG), some (.int n), some (.str z), x] ∧ H1 = H' ∧ RowOk 20 z ∧ z.length ≤ i) ⟨d1, "", none, rfl, rfl, rowOk_of (by decide +kernel), by decide +kernel⟩ (fun i σ H3 hi p => ?_) (fun σ H3 p => ?_)
    · obtain ⟨n, z, x, rfl, rfl, hz, lz1⟩ := p
      have hi : i < 12 := by
        have := Int.emod_lt_of_pos d0 (show (0 : Int) < 12 by decide)
        omega
      walk_at "xx"
      refine b_lenS hs ?_
      rw [l65]
      walk_at "xx"
      have r0 : 0 ≤ n % 65 := Int.emod_nonneg _ (by decide)
      have r1 : n % 65 < 65 := Int.emod_lt_of_pos _ (by decide)
      obtain ⟨c, g1, g2⟩ := atI_cps (z := SG) (i := (n % 65).toNat) (by omega)
      rw [Int.toNat_of_nonneg r0] at g2
      refine o_ixS hs g2 ?_
      obtain ⟨hz2, lz2⟩ := row_snoc hz lz1 (by omega) (List.mem_of_getElem? g1)
      refine o_addS (by rw [sizeLine_eq]; have := hz.len; show z.length + 1 ≤ _; omega) ?_
      walk_at "xx"
      refine b_lenS hs ?_
      rw [l65]
      walk_at "xx"
      exact ⟨_, _, _, rfl, rfl, hz2, lz2⟩
    · obtain ⟨n, z, x, rfl, rfl, hz, _⟩ := p
      walk_at "xx"
      exact q z _ s1 hz
def spLRows (K : PySem.W.Frag) : Sp := fun vs H Q _ => ∃ (a : Addr) (zs : List Int) (k : Int) (n : Nat), vs = [.ref a, .int k, .int (n : Int)] ∧ SqL K H a (zs.map V.int) ∧ n ≤ 20 ∧
  ∀ p H' (ls : List Str), Same H H' → H p = none → H' p = some (.lst (ls.map V.str)) → ls.length = n → (∀ l ∈ ls, RowOk 20 l) → Q (.ref p) H'
theorem k_law_rows (T : Tx K mg) : C8.Cal P w K mg base 3 "_law_rows" (spLRows K) [] := by
  refine cal_of (N := n_law_rows) T.d_law_rows sc_law_rows (fun _ _ F => F.bindsN fun _ _ _ _ _ _ us hl => match us, hl with | [_, _, _], _ => rfl) (fun vs H Q E h => ?_) (fun f cdv A outer s H vs Q E hr h => ?_)
  · obtain ⟨_, _, _, _, rfl, _⟩ := h
    rfl
  · obtain ⟨a, zs, k, n, rfl, hS, hn, q⟩ := h
    refine ⟨_, (pss_cons (ps_asg (pe_lst pa_nil) (pg_name (i := 3) sc_law_rows.nd rfl (Or.inl rfl))) (pss_cons (ps_for PassesOwn.never rfl (pi_range1 (by rfl) T.z_range (pa_cons (pv 2) pa_nil)) (pg_name (i := 4) sc_law_rows.nd rfl (Or.inl rfl)) (pss_one (ps_expr (pe_bm PySem.F.plainAttrs_list PySem.F.slot_list_append PySem.F.type_list_append mt_append (pv 3) (pa_cons (C8.pe_c (k_law_row T) hr (by first | decide | omega) (by rfl) (pa_cons (C8.pe_c (k_law_draws T) hr (by first | decide | omega) (by rfl) (pa_cons (pv 0) (pa_cons (pe_op op_add3 (pv 1) (pv 4)) (pa_cons (pe_lst (pa_cons pe_int (pa_cons (pe_op op_pow pe_int pe_int) pa_nil))) pa_nil)))) pa_nil)) pa_nil) : PE _ _ (tBM K _ _ _ _))))) (pss_one (ps_ret (pv 3))))), ?_⟩
    walk_at "xx"
    rename_i p H1 n1 s1 e1
    refine f_range (fun i σ H' => ∃ (ls : List Str) (x : Option V), σ = [some (.ref a), some (.int k), some (.int n), some (.ref p), x] ∧ Same H H' ∧ H' p = some (.lst (ls.map V.str)) ∧ ls.length = i ∧ ∀ l ∈ ls, RowOk 20 l) ⟨[], none, rfl, s1, e1, rfl, fun _ h => absurd h (by simp)⟩ (fun i σ H3 hi z => ?_) (fun σ H3 z => ?_)
    · obtain ⟨ls, x, rfl, s3, e3, ll, hls⟩ := z
      have hi : i < n := by omega
      walk_at "xx"
      refine m_ty (lst_of e3) ?_
      walk_at "xx"
      rename_i b H4 n4 s4 e4
      refine ⟨a, b, zs, [60, 10 ^ 24], _, rfl, (s3.trans s4).seq hS, lst_of e4, szOk_of (by decide +kernel), fun dp H5 ds s5 n5 e5 hd => ?_⟩
      obtain ⟨d0, _, rfl, l0, u0, hd⟩ := hd.inv
      obtain ⟨d1, _, rfl, l1, u1, hd⟩ := hd.inv
      obtain rfl := hd.nil_inv
      walk_at "xx"
      refine ⟨dp, d0, d1, rfl, e5, l0, u0, fun z H6 s6 hz => ?_⟩
      walk_at "xx"
      have e6 := s6 _ _ (s5 _ _ (s4 _ _ e3))
      have S6 := s3.trans (s4.trans (s5.trans s6))
      refine m_app e6 (by rw [List.length_map]; exact small1000' (by omega)) fun H7 c7 e7 => ?_
      walk_at "xx"
      refine ⟨ls ++ [z], _, rfl, c7.same S6 n1, by rw [List.map_append]; exact e7, by rw [List.length_append, ll]; rfl, fun l hl => ?_⟩
      rcases List.mem_append.mp hl with hl | hl
      · exact hls l hl
      · rw [List.mem_singleton.mp hl]
        exact hz
    · obtain ⟨ls, x, rfl, s3, e3, ll, hls⟩ := z
      walk_at "xx"
      exact q p H3 ls s3 n1 e3 (by omega) hls
/-- numbers below 10 to the 12th, at least one -/
def NumsOk (m : Nat) (ns : List Nat) : Prop := ns ≠ [] ∧ ns.length ≤ m ∧ ∀ n ∈ ns, n < 10 ^ 12
def spLNums (K : PySem.W.Frag) : Sp := fun vs H Q _ => ∃ (a : Addr) (ds : List Int), vs = [.ref a] ∧ H a = some (.lst (ds.map V.int)) ∧ 2 ≤ ds.length ∧ ds.length ≤ 9 ∧ (∀ d ∈ ds, 0 ≤ d ∧ d < 10 ^ 20) ∧
  ∀ v H' (ns : List Nat), Same H H' → NumsOk (ds.length - 1) ns → Tp H' v (natsD ns) → Q v H'
theorem k_law_numbers (T : Tx K mg) : C8.Cal P w K mg base 2 "_law_numbers" (spLNums K) [] := by
  refine cal_of (N := n_law_numbers) T.d_law_numbers sc_law_numbers (fun _ _ F => F.bindsN fun _ _ _ _ _ _ us hl => match us, hl with | [_], _ => rfl) (fun vs H Q E h => ?_) (fun f cdv A outer s H vs Q E hr h => ?_)
  · obtain ⟨_, _, rfl, _⟩ := h
    rfl
  · obtain ⟨a, ds, rfl, ea, l2, l9, hd, q⟩ := h
    refine ⟨_, (pss_one (ps_ret (pe_callTy (W6.call_tup2 : CallR _ _ (W6.rTup K)) (by rfl) T.z_tuple (by decide +kernel) (pa_cons (pe_lc (own := [("draw", 1)]) (g := gName 1) (tt := tYes) (by rfl) sc_law_numbers.nd (pi_list (pe_slice (sl_2 : SlR _ (rSl2 K)) (pv 0) (po_some pe_int) (po_some (pe_op op_add3 pe_int (pe_op op_mod (pe_callTy call_int2 (by rfl) T.z_int (by decide +kernel) (pa_cons (pe_ix (ix_seq : IxR _ (rIx K)) (pv 0) pe_int (fun _ _ => rfl)) pa_nil)) (pe_op op_sub (pe_callB (call_len2 : CallR _ _ (rLn K)) (by rfl) T.z_len (by decide +kernel) (pa_cons (pv 0) pa_nil)) pe_int))))) : PI _ _ _ (iList K _)) (blkOk_by (own := [("draw", 1)]) (N := n_law_numbers) (sc := defScope s_law_numbers) (by decide +kernel)) (fun _ _ _ _ _ => pg_name (i := 1) sc_law_numbers.nd rfl (Or.inl rfl)) (fun _ _ _ _ _ => pts_nil) (fun _ _ _ _ _ => (C8.pe_c (k_law_number T) hr (by first | decide | omega) (by rfl) (pa_cons (pv 1) pa_nil)))) pa_nil)))), ?_⟩
    walk_at "xx"
    refine ix_int (i := 0) (lst_of ea) (by decide) (by omega) fun d0 g0 => ?_
    walk_at "xx"
    refine b_lenL (lst_of ea) ?_
    rw [List.length_map]
    walk_at "xx"
    obtain ⟨m, hm⟩ : ∃ m : Nat, (d0 % ((ds.length : Int) - 1)) = m := ⟨(d0 % ((ds.length : Int) - 1)).toNat, (Int.toNat_of_nonneg (Int.emod_nonneg _ (by omega))).symm⟩
    have hm2 : m + 1 < ds.length := by
      have := Int.emod_lt_of_pos d0 (show (0 : Int) < (ds.length : Int) - 1 by omega)
      omega
    rename_i p H1 n1 s1 e1
    rw [hm] at e1
    have ec : cutV (ds.map V.int) (some 1) (some (2 + (m : Int))) = ((ds.drop 1).take (m + 1)).map V.int := by
      have h := cut_mid (ds.map V.int) (n := 1) (m := m + 1) (by rw [List.length_map]; omega)
      rw [List.map_take, List.map_drop, ← h, show (2 + (m : Int)) = ((1 : Nat) : Int) + ((m + 1 : Nat) : Int) by omega]
      rfl
    rw [ec] at e1
    have hlen : ((ds.drop 1).take (m + 1)).length = m + 1 := by
      rw [List.length_take, List.length_drop]
      omega
    refine c_intsM (R := fun r => 0 ≤ r ∧ r < 10 ^ 12) (lst_of e1) (fun x H2 N hx hN => ?_) (by omega) (fun _ => rfl) fun D H2 rs nD s2 lr hr2 e2 => ?_
    · obtain ⟨h0, h1⟩ := hd x (List.mem_of_mem_drop (List.mem_of_mem_take hx))
      walk_at "xx"
      exact ⟨x, rfl, h0, h1, fun n hn => hN n ⟨by omega, by omega⟩⟩
    walk_at "xx"
    refine tp_new (lst_of e2) fun tp H3 n3 s3 e3 => ?_
    refine q _ H3 (rs.map Int.toNat) (s1.trans (s2.trans s3)) ⟨fun z => ?_, by rw [List.length_map]; omega, fun n hn => ?_⟩ (nats_of (fun r h => (hr2 r h).1) e3)
    · have := congrArg List.length z
      rw [List.length_map, lr, hlen] at this
      simp at this
    · obtain ⟨r, h, rfl⟩ := List.mem_map.mp hn
      have := hr2 r h
      omega
/-! ### a token -/
def TkO (t : Tk) : Prop := t.ok ∧ (∀ ns, t = .dead ns → ns.length ≤ 7) ∧ ∀ fs, t = .met fs → fs.length ≤ 6 ∧ ∀ f ∈ fs, f.length ≤ 4
theorem dr_rep {ds : List Int} {n : Nat} {c : Int} (h : Dr ds (List.replicate n c)) : ds.length = n ∧ ∀ d ∈ ds, 0 ≤ d ∧ d < c := by
  refine ⟨by rw [h.len, List.length_replicate], fun d hd => ?_⟩
  obtain ⟨j, hj, e⟩ := List.getElem_of_mem hd
  obtain ⟨s, es, h0, h1⟩ := h.get (i := j) (by rw [List.getElem?_eq_getElem hj, e])
  rw [List.getElem?_replicate] at es
  split at es
  · cases es
    exact ⟨h0, h1⟩
  · cases es
theorem cut_ints (ds : List Int) {n m : Nat} (h : n + m ≤ ds.length) : cutV (ds.map V.int) (some (n : Int)) (some ((n : Int) + (m : Int))) = ((ds.drop n).take m).map V.int := by
  rw [cut_mid _ (by rw [List.length_map]; exact h), List.map_take, List.map_drop]
theorem nums_ok {m : Nat} {ns : List Nat} (h : NumsOk m ns) (hm : m ≤ 10) : ns ≠ [] ∧ ns.length ≤ 10 ∧ ∀ n ∈ ns, n < 10 ^ 12 := ⟨h.1, by have := h.2.1; omega, h.2.2⟩
def spLTok (K : PySem.W.Frag) : Sp := fun vs H Q _ => ∃ (a : Addr) (zs : List Int) (k : Int), vs = [.ref a, .int k] ∧ SqL K H a (zs.map V.int) ∧ ∀ v H' t, Same H H' → TkO t → Tp H' v t.d → Q v H'
theorem k_law_token (T : Tx K mg) : C8.Cal P w K mg base 3 "_law_token" (spLTok K) [] := by
  refine cal_of (N := n_law_token) T.d_law_token sc_law_token (fun _ _ F => F.bindsN fun _ _ _ _ _ _ us hl => match us, hl with | [_, _], _ => rfl) (fun vs H Q E h => ?_) (fun f cdv A outer s H vs Q E hr h => ?_)
  · obtain ⟨_, _, _, rfl, _⟩ := h
    rfl
  · obtain ⟨a, zs, k, rfl, hS, q⟩ := h
    refine ⟨_, (pss_cons (ps_asg (C8.pe_c (k_law_draws T) hr (by first | decide | omega) (by rfl) (pa_cons (pv 0) (pa_cons (pv 1) (pa_cons (pe_op op_add3 (pe_lst (pa_cons pe_int (pa_cons pe_int pa_nil))) (pe_lc (own := [("k", 4)]) (g := gName 4) (tt := tYes) (by rfl) sc_law_token.nd (pi_range1 (by rfl) T.z_range (pa_cons pe_int pa_nil)) (blkOk_by (own := [("k", 4)]) (N := n_law_token) (sc := defScope s_law_token) (by decide +kernel)) (fun _ _ _ _ _ => pg_name (i := 4) sc_law_token.nd rfl (Or.inl rfl)) (fun _ _ _ _ _ => pts_nil) (fun _ _ _ _ _ => (pe_op op_mul2 pe_int (pe_op op_pow pe_int pe_int))))) pa_nil)))) (pg_name (i := 2) sc_law_token.nd rfl (Or.inr rfl))) (pss_cons (ps_if (pt_cmpR (op_eq2 hr.units : OpR _ _ (rEq2 K)) (pe_ix (ix_seq : IxR _ (rIx K)) (pv 2) pe_int (fun _ _ => rfl)) pe_int (nomark _)) (pss_one (ps_ret (pe_tup (pa_cons pe_str pa_nil)))) pss_nil) (pss_cons (ps_if (pt_cmpR (op_eq2 hr.units : OpR _ _ (rEq2 K)) (pe_ix (ix_seq : IxR _ (rIx K)) (pv 2) pe_int (fun _ _ => rfl)) pe_int (nomark _)) (pss_one (ps_ret (pe_tup (pa_cons pe_str pa_nil)))) pss_nil) (pss_cons (ps_if (pt_cmpR (op_eq2 hr.units : OpR _ _ (rEq2 K)) (pe_ix (ix_seq : IxR _ (rIx K)) (pv 2) pe_int (fun _ _ => rfl)) pe_int (nomark _)) (pss_one (ps_ret (pe_tup (pa_cons pe_str (pa_cons (C8.pe_c (k_law_numbers T) hr (by first | decide | omega) (by rfl) (pa_cons (pe_slice (sl_2 : SlR _ (rSl2 K)) (pv 2) (po_some pe_int) (po_some pe_int)) pa_nil)) pa_nil))))) pss_nil) (pss_cons (ps_setLc (i := 3) (own := [("k", 4)]) (g := gName 4) (tt := tYes) (by rfl) sc_law_token.nd rfl rfl (sw_true rfl rfl rfl (by decide +kernel)) (pi_range1 (by rfl) T.z_range (pa_cons (pe_op op_add3 pe_int (pe_ix (ix_seq : IxR _ (rIx K)) (pv 2) pe_int (fun _ _ => rfl))) pa_nil)) (blkOk_by (own := [("k", 4)]) (N := n_law_token) (sc := defScope s_law_token) (by decide +kernel)) (fun _ _ _ _ _ => pg_name (i := 4) sc_law_token.nd rfl (Or.inl rfl)) (fun _ _ _ _ _ => pts_nil) (fun _ _ _ _ _ => (C8.pe_c (k_law_numbers T) hr (by first | decide | omega) (by rfl) (pa_cons (pe_slice (sl_2 : SlR _ (rSl2 K)) (pv 2) (po_some (pe_op op_add3 pe_int (pe_op op_mul2 pe_int (pv 4)))) (po_some (pe_op op_add3 pe_int (pe_op op_mul2 pe_int (pv 4))))) pa_nil)))) (pss_one (ps_ret (pe_tup (pa_cons pe_str (pa_cons (pe_callTy (W6.call_tup2 : CallR _ _ (W6.rTup K)) (by rfl) T.z_tuple (by decide +kernel) (pa_cons (pv 3) pa_nil)) pa_nil)))))))))), ?_⟩
    walk_at "xx"
    rename_i b H1 n1 s1 e1
    refine c_constI (c := 7 * 10 ^ 12) (fun _ _ _ h => ?_) (by decide) (fun _ => rfl) fun D H2 nD s2 e2 => ?_
    · walk_at "xx"
      exact h
    have e1b := s2 _ _ e1
    refine o_addL e1b e2 (by rw [sizeLine_eq]; simp) fun c H3 n3 s3 e3 => ?_
    have e3 : H3 c = some (.lst ((5 :: 6 :: List.replicate 38 (7 * 10 ^ 12) : List Int).map V.int)) := e3
    walk_at "xx"
    have S3 := s1.trans (s2.trans s3)
    refine ⟨a, c, zs, _, k, rfl, S3.seq hS, lst_of e3, szOk_of (by decide +kernel), fun dp H4 ds s4 n4 e4 hd => ?_⟩
    obtain ⟨d0, _, rfl, l0, u0, hd⟩ := hd.inv
    obtain ⟨d1, r, rfl, l1, u1, hd⟩ := hd.inv
    obtain ⟨lr, br⟩ := dr_rep hd
    have S4 := S3.trans s4
    clear S3 s1 s2 s3 s4 n1 e1 e1b nD e2 n3 e3 n4 hd
    have hget0 : H4 dp = some (.lst (.int d0 :: .int d1 :: r.map V.int)) := e4
    have hlen : (d0 :: d1 :: r).length = 40 := by
      simp only [List.length_cons, lr]
    have hb : ∀ d ∈ d0 :: d1 :: r, 0 ≤ d ∧ d < 10 ^ 20 := fun d hd => by
      rcases List.mem_cons.mp hd with rfl | hd
      · omega
      rcases List.mem_cons.mp hd with rfl | hd
      · omega
      have := br d hd
      omega
    walk_at "xx"
    refine o_ixL (lst_of hget0) (v := .int d0) (atI_nat (j := 0) rfl) ?_
    walk_at "xx"
    refine iteI (fun e => ?_) (fun e => ?_)
    · walk_at "xx"
      rename_i p1 H5 n5 s5 e5
      exact q _ H5 .on (S4.trans s5) ⟨True.intro, fun _ z => (nomatch z), fun _ z => (nomatch z)⟩ (.tup e5 (.cons (.str _) .nil))
    walk_at "xx"
    refine o_ixL (lst_of hget0) (v := .int d0) (atI_nat (j := 0) rfl) ?_
    walk_at "xx"
    refine iteI (fun e => ?_) (fun e => ?_)
    · walk_at "xx"
      rename_i p1 H5 n5 s5 e5
      exact q _ H5 .over (S4.trans s5) ⟨True.intro, fun _ z => (nomatch z), fun _ z => (nomatch z)⟩ (.tup e5 (.cons (.str _) .nil))
    walk_at "xx"
    refine o_ixL (lst_of hget0) (v := .int d0) (atI_nat (j := 0) rfl) ?_
    walk_at "xx"
    refine iteI (fun e => ?_) (fun e => ?_)
    · walk_at "xx"
      rename_i p1 H5 n5 s5 e5
      have ec : cutV (.int d0 :: .int d1 :: r.map V.int) (some 2) (some 10) = (((d0 :: d1 :: r).drop 2).take 8).map V.int := cut_ints (d0 :: d1 :: r) (n := 2) (m := 8) (by omega)
      rw [ec] at e5
      have l8 : (((d0 :: d1 :: r).drop 2).take 8).length = 8 := by
        rw [List.length_take, List.length_drop]
        omega
      refine ⟨p1, _, rfl, e5, by omega, by omega, fun d hd => hb d (List.mem_of_mem_drop (List.mem_of_mem_take hd)), fun v H6 ns s6 hn tv => ?_⟩
      rw [l8] at hn
      walk_at "xx"
      rename_i p2 H7 n7 s7 e7
      refine q _ H7 (.dead ns) (S4.trans (s5.trans (s6.trans s7))) ⟨nums_ok hn (by decide), fun ms z => ?_, fun _ z => (nomatch z)⟩ (.tup e7 (.cons (.str _) (.cons (tv.tk s7.tk) .nil)))
      cases z
      exact hn.2.1
    obtain ⟨d1, rfl⟩ : ∃ m : Nat, d1 = m := ⟨d1.toNat, by omega⟩
    walk_at "xx"
    refine o_ixL (lst_of hget0) (v := .int (d1 : Int)) (atI_nat (j := 1) rfl) ?_
    walk_at "xx"
    refine c_accR (One fun _ y H => ∃ f : List Nat, NumsOk 4 f ∧ Tp H y (natsD f)) (fun i acc H H' k h => ⟨h.1, fun j y e => (h.2 j y e).imp fun f hf => ⟨hf.1, hf.2.tk k⟩⟩) (fun i acc H hi h => small1000' (by rw [h.1]; omega)) One.zero (fun j H5 acc N M hj s5 o hN hM => ?_) (fun D H5 ys nD s5 e5 o => ?_)
    · refine g_name ⟨rfl, t_yes ?_⟩
      refine iteTT rfl ?_
      have hdp := s5 _ _ hget0
      have hj : j < 6 := by omega
      walk_at "xx"
      rename_i p1 H6 n6 s6 e6
      have ec : cutV (.int d0 :: .int (d1 : Int) :: r.map V.int) (some (10 + 5 * (0 + (j : Int)))) (some (15 + 5 * (0 + (j : Int)))) = (((d0 :: (d1 : Int) :: r).drop (10 + 5 * j)).take 5).map V.int := by
        have h := cut_ints (d0 :: (d1 : Int) :: r) (n := 10 + 5 * j) (m := 5) (by omega)
        rw [← h, show (10 + 5 * (0 + (j : Int))) = ((10 + 5 * j : Nat) : Int) by omega, show (15 + 5 * (0 + (j : Int))) = ((10 + 5 * j : Nat) : Int) + ((5 : Nat) : Int) by omega]
        rfl
      rw [ec] at e6
      have l5 : (((d0 :: (d1 : Int) :: r).drop (10 + 5 * j)).take 5).length = 5 := by
        rw [List.length_take, List.length_drop]
        omega
      refine ⟨p1, _, rfl, e6, by omega, by omega, fun d hd => hb d (List.mem_of_mem_drop (List.mem_of_mem_take hd)), fun v H7 ns s7 hn tv => ?_⟩
      rw [l5] at hn
      exact hN _ _ (s6.trans s7) (o.snoc (fun _ _ h => h.imp fun f hf => ⟨hf.1, hf.2.tk (s6.trans s7).tk⟩) ⟨ns, hn, tv⟩)
    · obtain ⟨fs, tf, lf, hf⟩ := One.data o
      walk_at "xx"
      refine tp_new (lst_of e5) fun tp H6 n6 s6 e6 => ?_
      walk_at "xx"
      rename_i p2 H7 n7 s7 e7
      have k7 := s6.trans s7
      refine q _ H7 (.met fs) (S4.trans (s5.trans k7)) ⟨⟨fun z => ?_, by omega, fun f h => nums_ok (hf f h) (by decide)⟩, fun ms z => (nomatch z), fun gs z => by cases z; exact ⟨by omega, fun f h => (hf f h).2.1⟩⟩ (.tup e7 (.cons (.str _) (.cons (.tup (s7 _ _ e6) (tf.tk k7.tk)) .nil)))
      rw [z] at lf
      simp only [List.length_nil] at lf
      omega
end
end K30
-- WIDE
namespace K30
open PySem PySem.Spec PyProof.Rows L2 Wy WN WQ WS WC WE WO WM W3 W4 WR WXD W30
abbrev PL : Str := "place "
def szL (z : Str) (k : Nat) : Str := Txt.join SP [z, numS k]
/-- what is asked for: a place, or apart from a text -/
inductive Sb where
  | place (t : Str)
  | apart (ls : List Str)
def Sb.ok : Sb → Prop
  | .place t => RowOk 40 t
  | .apart ls => ls ≠ [] ∧ ls.length ≤ 20 ∧ ∀ l ∈ ls, RowOk 20 l
def Sb.d : Sb → PyData
  | .place t => .tuple [.str "place", .str t]
  | .apart ls => .tuple [.str "apart", .str (Txt.join NL ls)]
def Sb.ls : Sb → List Str
  | .place t => [PL ++ t]
  | .apart ls => szL "apart" ls.length :: ls
structure Pp where
  rows : List Str
  sb : Sb
  vd : Vd
  ts : List Tk
structure Pp.ok (p : Pp) : Prop where
  r : p.rows ≠ [] ∧ p.rows.length ≤ 20 ∧ ∀ l ∈ p.rows, RowOk 20 l
  s : p.sb.ok
  v : p.vd.ok ∧ ∀ ns, p.vd = .found ns → ns.length ≤ 6
  t : p.ts ≠ [] ∧ p.ts.length ≤ 60 ∧ ∀ t ∈ p.ts, TkO t
def Pp.lines (p : Pp) : List Str := szL "text" p.rows.length :: p.rows ++ (p.sb.ls ++ (p.vd.l :: p.ts.map Tk.l))
def Pp.pd (p : Pp) : Pd := ⟨Txt.join NL p.rows, p.sb.d, p.vd.d, .tuple (p.ts.map Tk.d)⟩
theorem szL_len {z : Str} {k : Nat} (lz : z.length ≤ 100) (h : k < 10 ^ 12) : (szL z k).length ≤ 300 := by
  have ln := (num_len (m := 12) (by decide) h).2
  have := join_len (y := SP) (ps := [z, numS k]) (B := 100) fun p hp => by
    simp only [List.mem_cons, List.not_mem_nil, or_false] at hp
    rcases hp with rfl | rfl <;> omega
  have e : SP.length = 1 := by decide +kernel
  rw [e] at this
  simp only [List.length_cons, List.length_nil] at this
  unfold szL
  omega
theorem szL_row {z : Str} {k : Nat} (h : 10 ∉ tl z) : 10 ∉ tl (szL z k) := join_no (by decide +kernel) fun p hp => by
  simp only [List.mem_cons, List.not_mem_nil, or_false] at hp
  rcases hp with rfl | rfl
  · exact h
  · exact num_no (.inl (by decide))
theorem tk_len {t : Tk} (h : t.ok) : t.l.length ≤ 2000 := by
  have e : SP.length = 1 := by decide +kernel
  cases t with
  | on => decide +kernel
  | over => decide +kernel
  | dead ns =>
    obtain ⟨h1, h2, h3⟩ := h
    have := join_len (y := SP) (ps := ("dead" : Str) :: ns.map numS) (B := 12) fun p hp => by
      rcases List.mem_cons.mp hp with rfl | hp
      · decide +kernel
      · obtain ⟨n, hn, rfl⟩ := List.mem_map.mp hp
        exact (num_len (by decide) (h3 n hn)).2
    rw [e, List.length_cons, List.length_map] at this
    exact Nat.le_trans this (by omega)
  | met fs =>
    obtain ⟨h1, h2, h3⟩ := h
    have := join_len (y := SP) (ps := ("met" : Str) :: fs.map fun f : List Nat => Txt.join CM (f.map numS)) (B := 130) fun p hp => by
      rcases List.mem_cons.mp hp with rfl | hp
      · decide +kernel
      · obtain ⟨f, hf, rfl⟩ := List.mem_map.mp hp
        exact fl_len (h3 f hf).2.1 (h3 f hf).2.2
    rw [e, List.length_cons, List.length_map] at this
    exact Nat.le_trans this (by omega)
theorem vd_len {d : Vd} (h : d.ok) : d.l.length ≤ 2000 := by
  cases d with
  | none => decide +kernel
  | found ns =>
    obtain ⟨hne, hl, hb⟩ := h
    have := join_len (y := SP) (ps := ("found" : Str) :: ns.map intS) (B := 13) fun p hp => by
      rcases List.mem_cons.mp hp with rfl | hp
      · decide +kernel
      · obtain ⟨n, hn, rfl⟩ := List.mem_map.mp hp
        exact int_len (hb n hn)
    have e : SP.length = 1 := by decide +kernel
    rw [e, List.length_cons, List.length_map] at this
    exact Nat.le_trans this (by omega)
theorem sb_line {s : Sb} (h : s.ok) : ∀ l ∈ s.ls, 10 ∉ tl l ∧ l.length ≤ 2000 := by
  cases s with
  | place t =>
    have h : RowOk 40 t := h
    intro l hl
    rw [List.mem_singleton.mp hl]
    refine ⟨?_, ?_⟩
    · rw [tl_app, List.mem_append, not_or]
      exact ⟨by decide +kernel, h.no⟩
    · rw [app_len]
      have := h.len
      have : PL.length = 6 := by decide +kernel
      omega
  | apart ls =>
    obtain ⟨h1, h2, h3⟩ := h
    intro l hl
    rcases List.mem_cons.mp hl with rfl | hl
    · exact ⟨szL_row (by decide +kernel), Nat.le_trans (szL_len (by decide +kernel) (by omega)) (by decide)⟩
    · exact ⟨(h3 l hl).no, Nat.le_trans (h3 l hl).len (by decide)⟩
theorem sb_count {s : Sb} (h : s.ok) : s.ls.length ≤ 21 := by
  cases s with
  | place t => exact (show 1 ≤ 21 by decide)
  | apart ls =>
    show ls.length + 1 ≤ 21
    have := h.2.1
    omega
theorem Pp.line {p : Pp} (h : p.ok) : ∀ l ∈ p.lines, 10 ∉ tl l ∧ l.length ≤ 2000 := by
  intro l hl
  unfold Pp.lines at hl
  rw [List.cons_append] at hl
  rcases List.mem_cons.mp hl with rfl | hl
  · have := h.r.2.1
    exact ⟨szL_row (by decide +kernel), Nat.le_trans (szL_len (by decide +kernel) (by omega)) (by decide)⟩
  rcases List.mem_append.mp hl with hl | hl
  · exact ⟨(h.r.2.2 l hl).no, Nat.le_trans (h.r.2.2 l hl).len (by decide)⟩
  rcases List.mem_append.mp hl with hl | hl
  · exact sb_line h.s l hl
  rcases List.mem_cons.mp hl with rfl | hl
  · exact ⟨vd_row _, vd_len h.v.1⟩
  · obtain ⟨t, ht, rfl⟩ := List.mem_map.mp hl
    exact ⟨tk_row t, tk_len (h.t.2.2 t ht).1⟩
theorem Pp.count {p : Pp} (h : p.ok) : p.lines.length ≤ 200 := by
  have h1 := h.r.2.1
  have h2 := sb_count h.s
  have h3 := h.t.2.1
  unfold Pp.lines
  simp only [List.length_append, List.length_cons, List.length_map]
  omega
theorem rows_join {ls : List Str} (h1 : ls.length ≤ 20) (h2 : ∀ l ∈ ls, RowOk 20 l) : (Txt.join NL ls).length ≤ 500 := by
  have := join_len (y := NL) (ps := ls) (B := 20) fun p hp => (h2 p hp).len
  have e : NL.length = 1 := by decide +kernel
  rw [e] at this
  omega
theorem nats_v {H : Hp} {v : V} {ns : List Nat} (h : Tp H v (natsD ns)) : ∃ a, v = .ref a ∧ H a = some (.tup (ns.map fun n : Nat => V.int (n : Int))) := by
  obtain ⟨a, us, rfl, e, t⟩ := tpL h
  have : us = (ns.map fun n : Nat => (n : Int)).map V.int := ints_tp (H := H) (by
    rw [List.map_map]
    exact t)
  rw [this, List.map_map] at e
  exact ⟨a, rfl, e⟩
theorem tp_strs {H : Hp} : ∀ {zs : List Str} {vs : List V}, TpAll H vs (zs.map PyData.str) → vs = zs.map V.str
  | [], _, h => by cases h; rfl
  | z :: zs, _, h => by
    cases h with
    | cons h1 h2 =>
      cases h1
      rw [tp_strs h2]
      rfl
/-! ### only common signs -/
def As (z : Str) : Prop := ∀ c ∈ tl z, c < 128
theorem as_app {x y : Str} (h1 : As x) (h2 : As y) : As (x ++ y) := fun c hc => by
  rw [tl_app, List.mem_append] at hc
  exact hc.elim (h1 c) (h2 c)
theorem as_join {y : Str} {ps : List Str} (h1 : As y) (h2 : ∀ p ∈ ps, As p) : As (Txt.join y ps) := fun c hc => by
  rw [jl] at hc
  rcases joinL_mem hc with h | ⟨p, hp, h⟩
  · exact h1 c h
  · obtain ⟨z, hz, rfl⟩ := List.mem_map.mp hp
    exact h2 z hz c h
theorem as_num (n : Nat) : As (numS n) := fun c hc => by
  rw [numS_tl] at hc
  have := TL.numL_digits n c hc
  omega
theorem as_int (n : Int) : As (intS n) := fun c hc => by
  rw [intS_tl] at hc
  split at hc
  · rcases List.mem_cons.mp hc with e | hc
    · omega
    · have := TL.numL_digits _ c hc
      omega
  · have := TL.numL_digits _ c hc
    omega
theorem as_sp : As SP := by
  unfold As
  decide +kernel
theorem as_cm : As CM := by
  unfold As
  decide +kernel
theorem as_sz {z : Str} {k : Nat} (h : As z) : As (szL z k) := as_join as_sp fun p hp => by
  simp only [List.mem_cons, List.not_mem_nil, or_false] at hp
  rcases hp with rfl | rfl
  · exact h
  · exact as_num k
theorem as_tk (t : Tk) : As t.l := by
  cases t with
  | on => unfold As; decide +kernel
  | over => unfold As; decide +kernel
  | dead ns =>
    exact as_join as_sp fun p hp => by
      rcases List.mem_cons.mp hp with rfl | hp
      · unfold As; decide +kernel
      · obtain ⟨n, _, rfl⟩ := List.mem_map.mp hp
        exact as_num n
  | met fs =>
    exact as_join as_sp fun p hp => by
      rcases List.mem_cons.mp hp with rfl | hp
      · unfold As; decide +kernel
      · obtain ⟨f, _, rfl⟩ := List.mem_map.mp hp
        exact as_join as_cm fun q hq => by
          obtain ⟨n, _, rfl⟩ := List.mem_map.mp hq
          exact as_num n
theorem as_vd (d : Vd) : As d.l := by
  cases d with
  | none => unfold As; decide +kernel
  | found ns =>
    exact as_join as_sp fun p hp => by
      rcases List.mem_cons.mp hp with rfl | hp
      · unfold As; decide +kernel
      · obtain ⟨n, _, rfl⟩ := List.mem_map.mp hp
        exact as_int n
theorem as_sb {s : Sb} (h : s.ok) : ∀ l ∈ s.ls, As l := by
  cases s with
  | place t =>
    have h : RowOk 40 t := h
    intro l hl
    rw [List.mem_singleton.mp hl]
    exact as_app (by unfold As; decide +kernel) h.ok
  | apart ls =>
    obtain ⟨h1, h2, h3⟩ := h
    intro l hl
    rcases List.mem_cons.mp hl with rfl | hl
    · exact as_sz (by unfold As; decide +kernel)
    · exact (h3 l hl).ok
theorem Pp.row {p : Pp} (h : p.ok) : ∀ l ∈ p.lines, 10 ∉ tl l ∧ Row l := by
  intro l hl
  obtain ⟨h1, h2⟩ := Pp.line h l hl
  refine ⟨h1, h2, ?_⟩
  unfold Pp.lines at hl
  rw [List.cons_append] at hl
  rcases List.mem_cons.mp hl with rfl | hl
  · exact as_sz (by unfold As; decide +kernel)
  rcases List.mem_append.mp hl with hl | hl
  · exact (h.r.2.2 l hl).ok
  rcases List.mem_append.mp hl with hl | hl
  · exact as_sb h.s l hl
  rcases List.mem_cons.mp hl with rfl | hl
  · exact as_vd _
  · obtain ⟨t, ht, rfl⟩ := List.mem_map.mp hl
    exact as_tk t
end K30
-- WIDE
namespace K30
open PySem PySem.Spec PyProof.Rows L2 Wy WN WQ WS WC WE WO WM W3 W4 WR WXD W30

section
variable {P : Program} {w : World} {K : PySem.W.Frag} {mg : Str → Option Value} {base : Heap}
/-- the parts of a paper as the law makes them -/
structure PartsAt (H : Hp) (b : Addr) (p : Pp) : Prop where
  ex : ∃ sv vv tv, H b = some (.tup [.str (Txt.join NL p.rows), sv, vv, tv]) ∧ Tp H sv p.sb.d ∧ Tp H vv p.vd.d ∧ Tp H tv (.tuple (p.ts.map Tk.d))
theorem PartsAt.tk {H H' : Hp} {b : Addr} {p : Pp} (k : TK H H') (h : PartsAt H b p) : PartsAt H' b p := by
  obtain ⟨sv, vv, tv, e, t1, t2, t3⟩ := h
  exact ⟨sv, vv, tv, k _ _ e, t1.tk k, t2.tk k, t3.tk k⟩
def spParts (K : PySem.W.Frag) : Sp := fun vs H Q _ => ∃ (a : Addr) (zs : List Int), vs = [.ref a] ∧ SqL K H a (zs.map V.int) ∧ ∀ b H' p, Same H H' → p.ok → PartsAt H' b p → Q (.ref b) H'
theorem row_app {z : Str} (h : RowOk 20 z) : RowOk 40 (("row 1" : Str) ++ z) := by
  have l1 : ("row 1" : Str).length = 5 := by decide +kernel
  refine ⟨?_, ?_, fun x hx => ?_⟩
  · rw [tl_app, List.mem_append, not_or]
    exact ⟨by decide +kernel, h.no⟩
  · rw [app_len, l1]
    have := h.len
    omega
  · rw [tl_app, List.mem_append] at hx
    rcases hx with hx | hx
    · have : ∀ c ∈ tl ("row 1" : Str), c < 128 := by decide +kernel
      exact this x hx
    · exact h.ok x hx
theorem row_x {z : Str} (h : RowOk 20 z) : RowOk 40 (z ++ ("x" : Str)) := by
  have l1 : ("x" : Str).length = 1 := by decide +kernel
  refine ⟨?_, ?_, fun x hx => ?_⟩
  · rw [tl_app, List.mem_append, not_or]
    exact ⟨h.no, by decide +kernel⟩
  · rw [app_len, l1]
    have := h.len
    omega
  · rw [tl_app, List.mem_append] at hx
    rcases hx with hx | hx
    · exact h.ok x hx
    · have : ∀ c ∈ tl ("x" : Str), c < 128 := by decide +kernel
      exact this x hx
theorem row_wide {z : Str} (h : RowOk 20 z) : RowOk 40 z := ⟨h.no, Nat.le_trans h.len (by decide), h.ok⟩
theorem join_small {ls : List Str} {n : Nat} (hn : n ≤ 20) (hl : ls.length = n) (h : ∀ l ∈ ls, RowOk 20 l) : (ls.map (·.length)).sum + ls.length * (Str.ofString "\n").length ≤ 16777216 := by
  have h1 := sum_len (ps := ls) (B := 20) fun l hl => (h l hl).len
  have e : (Str.ofString "\n").length = 1 := rfl
  rw [e]
  omega
theorem k_law_parts (T : Tx K mg) : C8.Cal P w K mg base 4 "_law_parts" (spParts K) [] := by
  refine cal_of (N := n_law_parts) T.d_law_parts sc_law_parts (fun _ _ F => F.bindsN fun _ _ _ _ _ _ us hl => match us, hl with | [_], _ => rfl) (fun vs H Q E h => ?_) (fun f cdv A outer s H vs Q E hr h => ?_)
  · obtain ⟨_, _, rfl, _⟩ := h
    rfl
  · obtain ⟨a, zs, rfl, hS, q⟩ := h
    refine ⟨_, (pss_cons (ps_asg (C8.pe_c (k_law_draws T) hr (by first | decide | omega) (by rfl) (pa_cons (pv 0) (pa_cons pe_int (pa_cons (pe_lst (pa_cons pe_int (pa_cons pe_int (pa_cons pe_int (pa_cons pe_int (pa_cons pe_int (pa_cons pe_int (pa_cons pe_int (pa_cons pe_int pa_nil))))))))) pa_nil)))) (pg_name (i := 1) sc_law_parts.nd rfl (Or.inl rfl))) (pss_cons (ps_asg (pe_join2 pe_str (C8.pe_c (k_law_rows T) hr (by first | decide | omega) (by rfl) (pa_cons (pv 0) (pa_cons pe_int (pa_cons (pe_op op_add3 pe_int (pe_ix (ix_seq : IxR _ (rIx K)) (pv 1) pe_int (fun _ _ => rfl))) pa_nil)))) : PE _ _ (tM1 (rJoin K) _ _)) (pg_name (i := 2) sc_law_parts.nd rfl (Or.inl rfl))) (pss_cons (ps_asg (pe_tup (pa_cons pe_str (pa_cons (pe_op op_add3 pe_str (pe_ix (ix_seq : IxR _ (rIx K)) (C8.pe_c (k_law_rows T) hr (by first | decide | omega) (by rfl) (pa_cons (pv 0) (pa_cons pe_int (pa_cons pe_int pa_nil)))) pe_int (fun _ _ => rfl))) pa_nil))) (pg_name (i := 3) sc_law_parts.nd rfl (Or.inl rfl))) (C8.pss_cut (ps_if (pt_cmpR (op_eq2 hr.units : OpR _ _ (rEq2 K)) (pe_ix (ix_seq : IxR _ (rIx K)) (pv 1) pe_int (fun _ _ => rfl)) pe_int (nomark _)) (pss_one (ps_asg (pe_tup (pa_cons pe_str (pa_cons (pe_op op_add3 (pe_ix (ix_seq : IxR _ (rIx K)) (C8.pe_c (k_law_rows T) hr (by first | decide | omega) (by rfl) (pa_cons (pv 0) (pa_cons pe_int (pa_cons pe_int pa_nil)))) pe_int (fun _ _ => rfl)) pe_str) pa_nil))) (pg_name (i := 3) sc_law_parts.nd rfl (Or.inl rfl)))) pss_nil) (C8.pss_cut (ps_if (pt_cmpR (op_eq2 hr.units : OpR _ _ (rEq2 K)) (pe_ix (ix_seq : IxR _ (rIx K)) (pv 1) pe_int (fun _ _ => rfl)) pe_int (nomark _)) (pss_one (ps_asg (pe_tup (pa_cons pe_str (pa_cons (pe_join2 pe_str (C8.pe_c (k_law_rows T) hr (by first | decide | omega) (by rfl) (pa_cons (pv 0) (pa_cons pe_int (pa_cons (pe_op op_add3 pe_int (pe_ix (ix_seq : IxR _ (rIx K)) (pv 1) pe_int (fun _ _ => rfl))) pa_nil)))) : PE _ _ (tM1 (rJoin K) _ _)) pa_nil))) (pg_name (i := 3) sc_law_parts.nd rfl (Or.inl rfl)))) pss_nil) (pss_cons (ps_asg (pe_tup (pa_cons pe_str pa_nil)) (pg_name (i := 4) sc_law_parts.nd rfl (Or.inl rfl))) (C8.pss_cut (ps_if (pt_cmpR (op_eq2 hr.units : OpR _ _ (rEq2 K)) (pe_ix (ix_seq : IxR _ (rIx K)) (pv 1) pe_int (fun _ _ => rfl)) pe_int (nomark _)) (pss_cons (ps_asg (C8.pe_c (k_law_draws T) hr (by first | decide | omega) (by rfl) (pa_cons (pv 0) (pa_cons pe_int (pa_cons (pe_op op_add3 (pe_lc (own := [("k", 7)]) (g := gName 7) (tt := tYes) (by rfl) sc_law_parts.nd (pi_range1 (by rfl) T.z_range (pa_cons pe_int pa_nil)) (blkOk_by (own := [("k", 7)]) (N := n_law_parts) (sc := defScope s_law_parts) (by decide +kernel)) (fun _ _ _ _ _ => pg_name (i := 7) sc_law_parts.nd rfl (Or.inl rfl)) (fun _ _ _ _ _ => pts_nil) (fun _ _ _ _ _ => pe_int)) (pe_lc (own := [("k", 7)]) (g := gName 7) (tt := tYes) (by rfl) sc_law_parts.nd (pi_range1 (by rfl) T.z_range (pa_cons pe_int pa_nil)) (blkOk_by (own := [("k", 7)]) (N := n_law_parts) (sc := defScope s_law_parts) (by decide +kernel)) (fun _ _ _ _ _ => pg_name (i := 7) sc_law_parts.nd rfl (Or.inl rfl)) (fun _ _ _ _ _ => pts_nil) (fun _ _ _ _ _ => (pe_op op_mul2 pe_int (pe_op op_pow pe_int pe_int))))) pa_nil)))) (pg_name (i := 5) sc_law_parts.nd rfl (Or.inr rfl))) (pss_one (ps_asg (pe_tup (pa_cons pe_str (pa_cons (pe_callTy (W6.call_tup2 : CallR _ _ (W6.rTup K)) (by rfl) T.z_tuple (by decide +kernel) (pa_cons (pe_lc (own := [("k", 7)]) (g := gName 7) (tt := tYes) (by rfl) sc_law_parts.nd (pi_range1 (by rfl) T.z_range (pa_cons (pe_op op_add3 pe_int (pe_ix (ix_seq : IxR _ (rIx K)) (pv 1) pe_int (fun _ _ => rfl))) pa_nil)) (blkOk_by (own := [("k", 7)]) (N := n_law_parts) (sc := defScope s_law_parts) (by decide +kernel)) (fun _ _ _ _ _ => pg_name (i := 7) sc_law_parts.nd rfl (Or.inl rfl)) (fun _ _ _ _ _ => pts_nil) (fun _ _ _ _ _ => (pe_op op_mul2 (pe_op op_sub pe_int (pe_op op_mul2 pe_int (pe_ix (ix_seq : IxR _ (rIx K)) (pv 5) (pv 7) (fun _ _ => rfl)))) (C8.pe_c (k_law_number T) hr (by first | decide | omega) (by rfl) (pa_cons (pe_ix (ix_seq : IxR _ (rIx K)) (pv 5) (pe_op op_add3 pe_int (pv 7)) (fun _ _ => rfl)) pa_nil))))) pa_nil)) pa_nil))) (pg_name (i := 4) sc_law_parts.nd rfl (Or.inl rfl))))) pss_nil) (pss_cons (ps_asg (pe_op op_add3 pe_int (pe_ix (ix_seq : IxR _ (rIx K)) (pv 1) pe_int (fun _ _ => rfl))) (pg_name (i := 6) sc_law_parts.nd rfl (Or.inl rfl))) (pss_one (ps_ret (pe_tup (pa_cons (pv 2) (pa_cons (pv 3) (pa_cons (pv 4) (pa_cons (pe_callTy (W6.call_tup2 : CallR _ _ (W6.rTup K)) (by rfl) T.z_tuple (by decide +kernel) (pa_cons (pe_lc (own := [("k", 7)]) (g := gName 7) (tt := tYes) (by rfl) sc_law_parts.nd (pi_range1 (by rfl) T.z_range (pa_cons (pv 6) pa_nil)) (blkOk_by (own := [("k", 7)]) (N := n_law_parts) (sc := defScope s_law_parts) (by decide +kernel)) (fun _ _ _ _ _ => pg_name (i := 7) sc_law_parts.nd rfl (Or.inl rfl)) (fun _ _ _ _ _ => pts_nil) (fun _ _ _ _ _ => (C8.pe_c (k_law_token T) hr (by first | decide | omega) (by rfl) (pa_cons (pv 0) (pa_cons (pe_op op_add3 pe_int (pv 7)) pa_nil))))) pa_nil)) pa_nil))))))))))))))), ?_⟩
    walk_at "xx"
    rename_i b H1 n1 s1 e1
    refine ⟨a, b, zs, [5, 2, 4, 2, 6, 9, 40, 4], _, rfl, s1.seq hS, lst_of e1, szOk_of (by decide +kernel), fun sp H2 ds s2 n2 e2 hd => ?_⟩
    obtain ⟨d0, _, rfl, l0, u0, hd⟩ := hd.inv
    obtain ⟨d1, _, rfl, l1, u1, hd⟩ := hd.inv
    obtain ⟨d2, _, rfl, l2, u2, hd⟩ := hd.inv
    obtain ⟨d3, _, rfl, l3, u3, hd⟩ := hd.inv
    obtain ⟨d4, _, rfl, l4, u4, hd⟩ := hd.inv
    obtain ⟨d5, _, rfl, l5, u5, hd⟩ := hd.inv
    obtain ⟨d6, _, rfl, l6, u6, hd⟩ := hd.inv
    obtain ⟨d7, _, rfl, l7, u7, hd⟩ := hd.inv
    obtain rfl := hd.nil_inv
    clear hd
    obtain ⟨d0, rfl⟩ : ∃ m : Nat, d0 = m := ⟨d0.toNat, by omega⟩
    obtain ⟨d2, rfl⟩ : ∃ m : Nat, d2 = m := ⟨d2.toNat, by omega⟩
    obtain ⟨d4, rfl⟩ : ∃ m : Nat, d4 = m := ⟨d4.toNat, by omega⟩
    obtain ⟨d5, rfl⟩ : ∃ m : Nat, d5 = m := ⟨d5.toNat, by omega⟩
    have e2 : H2 sp = some (.lst [.int d0, .int d1, .int d2, .int d3, .int d4, .int d5, .int d6, .int d7]) := e2
    have S2 := s1.trans s2
    clear s1 s2 n1 e1 n2
    walk_at "xx"
    walk_at "xx"
    refine ⟨a, zs, 1, 1 + d0, by simp only [Int.natCast_add]; rfl, S2.seq hS, by omega, fun p H3 rows s3 n3 e3 lr hrw => ?_⟩
    refine m_join (lst_of e3) (join_small (by omega) lr hrw) ?_
    have e3s := s3 _ _ e2
    have S3 := S2.trans s3
    walk_at "xx"
    refine ⟨a, zs, 6, 1, rfl, S3.seq hS, by decide, fun p4 H4 ls4 s4 n4 e4 lr4 hr4 => ?_⟩
    obtain ⟨z4, rfl⟩ := List.length_eq_one_iff.mp lr4
    have hz4 := hr4 z4 (List.mem_singleton.mpr rfl)
    have e4 : H4 p4 = some (.lst [.str z4]) := e4
    walk_at "xx"
    refine o_addS (by rw [sizeLine_eq]; have := hz4.len; have e : (Str.ofString "row 1").length = 5 := by decide +kernel
                      omega) ?_
    walk_at "xx"
    rename_i p5 H5 n5 s5 e5
    have S5 := S3.trans (s4.trans s5)
    have e5s := s5 _ _ (s4 _ _ e3s)
    clear s3 n3 e3 s4 n4 e4 e3s
    refine s_cut (fun σ H' => ∃ t b, σ = [some (.ref a), some (.ref sp), some (.str (Txt.join NL rows)), some (.ref b), none, none, none, none] ∧ Same H5 H' ∧ RowOk 40 t ∧ Tp H' (.ref b) (.tuple [.str "place", .str t])) ?_ (fun σ H6 p6 => ?_)
    · walk_at "xx"
      refine iteI (fun e => ?_) (fun e => ?_)
      · walk_at "xx"
        refine ⟨a, zs, 6, 1, rfl, S5.seq hS, by decide, fun p4 H4 ls4 s4 n4 e4 lr4 hr4 => ?_⟩
        obtain ⟨z5, rfl⟩ := List.length_eq_one_iff.mp lr4
        have e4 : H4 p4 = some (.lst [.str z5]) := e4
        have hz5 := hr4 z5 (List.mem_singleton.mpr rfl)
        walk_at "xx"
        refine o_addS (by rw [sizeLine_eq]; have := hz5.len; have e : (Str.ofString "x").length = 1 := by decide +kernel
                          omega) ?_
        walk_at "xx"
        rename_i p7 H7 n7 s7 e7
        exact ⟨_, p7, rfl, s4.trans s7, row_x hz5, .tup e7 (.cons (.str _) (.cons (.str _) .nil))⟩
      · walk_at "xx"
        exact ⟨_, p5, rfl, Same.refl _, row_app hz4, .tup e5 (.cons (.str _) (.cons (.str _) .nil))⟩
    obtain ⟨t, pb, rfl, s6, ht, tp6⟩ := p6
    have S6 := S5.trans s6
    have e6s := s6 _ _ e5s
    clear s5 n5 e5 e5s s6 S5 S3
    refine s_cut (fun σ H' => ∃ sb b, σ = [some (.ref a), some (.ref sp), some (.str (Txt.join NL rows)), some (.ref b), none, none, none, none] ∧ Same H6 H' ∧ Sb.ok sb ∧ Tp H' (.ref b) sb.d) ?_ (fun σ H7 p7 => ?_)
    · walk_at "xx"
      refine iteI (fun e => ?_) (fun e => ?_)
      · walk_at "xx"
        refine ⟨a, zs, 6, 1 + d2, by simp only [Int.natCast_add]; rfl, S6.seq hS, by omega, fun p4 H4 ls4 s4 n4 e4 lr4 hr4 => ?_⟩
        refine m_join (lst_of e4) (join_small (by omega) lr4 hr4) ?_
        walk_at "xx"
        rename_i p7 H7 n7 s7 e7
        exact ⟨.apart ls4, p7, rfl, s4.trans s7, ⟨fun z => by rw [z] at lr4; simp only [List.length_nil] at lr4; omega, by omega, hr4⟩, .tup e7 (.cons (.str _) (.cons (.str _) .nil))⟩
      · walk_at "xx"
        exact ⟨.place t, pb, rfl, Same.refl _, ht, tp6⟩
    clear tp6 ht pb t
    obtain ⟨sb, pb, rfl, s7, hsb, tp7⟩ := p7
    have S7 := S6.trans s7
    have e7s := s7 _ _ e6s
    clear e6s s7 S6
    walk_at "xx"
    rename_i pv H8 n8 s8 e8
    have S8 := S7.trans s8
    have e8s := s8 _ _ e7s
    have tp8 := tp7.tk s8.tk
    clear S7 e7s tp7 s8
    refine s_cut (fun σ H' => ∃ vd b x, σ = [some (.ref a), some (.ref sp), some (.str (Txt.join NL rows)), some (.ref pb), some (.ref b), x, none, none] ∧ Same H8 H' ∧ (Vd.ok vd ∧ ∀ ns, vd = .found ns → ns.length ≤ 6) ∧ Tp H' (.ref b) vd.d) ?_ (fun σ H9 p9 => ?_)
    · walk_at "xx"
      refine iteI (fun e => ?_) (fun e => ?_)
      · walk_at "xx"
        refine c_constI (c := 2) (fun _ _ _ h => ?_) (by decide) (fun _ => rfl) fun D H9 nD s9 e9 => ?_
        · walk_at "xx"
          exact h
        walk_at "xx"
        refine c_constI (c := 7 * 10 ^ 12) (fun _ _ _ h => ?_) (by decide) (fun _ => rfl) fun D2 H10 nD2 s10 e10 => ?_
        · walk_at "xx"
          exact h
        refine o_addL (s10 _ _ e9) e10 (by rw [sizeLine_eq]; simp) fun c H11 n11 s11 e11 => ?_
        have e11 : H11 c = some (.lst ((2 :: 2 :: 2 :: 2 :: 2 :: 2 :: List.replicate 6 (7 * 10 ^ 12) : List Int).map V.int)) := e11
        have s11 := s9.trans (s10.trans s11)
        walk_at "xx"
        refine ⟨a, c, zs, _, _, rfl, (S8.trans s11).seq hS, lst_of e11, szOk_of (by decide +kernel), fun dp H12 ds s12 n12 e12 hd => ?_⟩
        obtain ⟨f0, _, rfl, i0, j0, hd⟩ := hd.inv
        obtain ⟨f1, _, rfl, i1, j1, hd⟩ := hd.inv
        obtain ⟨f2, _, rfl, i2, j2, hd⟩ := hd.inv
        obtain ⟨f3, _, rfl, i3, j3, hd⟩ := hd.inv
        obtain ⟨f4, _, rfl, i4, j4, hd⟩ := hd.inv
        obtain ⟨f5, r, rfl, i5, j5, hd⟩ := hd.inv
        obtain ⟨lr6, br6⟩ := dr_rep hd
        have s12 := s11.trans s12
        have e12s := s12 _ _ e8s
        have hsg : ∀ j : Nat, j < 6 → ∃ g, (f0 :: f1 :: f2 :: f3 :: f4 :: f5 :: r)[j]? = some g ∧ 0 ≤ g ∧ g < 2 := fun j hj => by
          have hj : j = 0 ∨ j = 1 ∨ j = 2 ∨ j = 3 ∨ j = 4 ∨ j = 5 := by omega
          rcases hj with rfl | rfl | rfl | rfl | rfl | rfl
          · exact ⟨f0, rfl, i0, j0⟩
          · exact ⟨f1, rfl, i1, j1⟩
          · exact ⟨f2, rfl, i2, j2⟩
          · exact ⟨f3, rfl, i3, j3⟩
          · exact ⟨f4, rfl, i4, j4⟩
          · exact ⟨f5, rfl, i5, j5⟩
        have hlg : ∀ j : Nat, j < 6 → ∃ g, (f0 :: f1 :: f2 :: f3 :: f4 :: f5 :: r)[6 + j]? = some g ∧ 0 ≤ g ∧ g < 7 * 10 ^ 12 := fun j hj => by
          have e : (f0 :: f1 :: f2 :: f3 :: f4 :: f5 :: r)[6 + j]? = r[j]? := by
            rw [show 6 + j = j + 1 + 1 + 1 + 1 + 1 + 1 by omega]
            rfl
          rw [e, List.getElem?_eq_getElem (by omega)]
          exact ⟨_, rfl, br6 _ (List.getElem_mem _)⟩
        generalize f0 :: f1 :: f2 :: f3 :: f4 :: f5 :: r = fs at *
        walk_at "xx"
        refine c_accR (One fun _ y _ => ∃ i : Int, i.natAbs < 10 ^ 12 ∧ y = .int i) (fun _ _ _ _ _ h => h) (fun i acc H hi h => small1000' (by rw [h.1]; omega)) One.zero (fun j H13 acc N M hj s13 o hN hM => ?_) (fun D H13 ys nD s13 e13 o => ?_)
        · refine g_name ⟨rfl, t_yes ?_⟩
          refine iteTT rfl ?_
          have e13 := s13 _ _ e12
          obtain ⟨g, eg, g0, g1⟩ := hsg j (by omega)
          obtain ⟨g', eg', g0', g1'⟩ := hlg j (by omega)
          walk_at "xx"
          refine o_ixL (lst_of e13) (atI_of (j := j) (by omega) (v := .int g) (by rw [List.getElem?_map, eg]; rfl)) ?_
          walk_at "xx"
          refine o_ixL (lst_of e13) (atI_of (j := 6 + j) (by omega) (v := .int g') (by rw [List.getElem?_map, eg']; rfl)) ?_
          walk_at "xx"
          refine ⟨g', rfl, g0', by omega, fun m hm => ?_⟩
          walk_at "xx"
          refine hN _ _ (Same.refl _) (o.snoc (fun _ _ h => h) ⟨_, ?_, rfl⟩)
          have hg : g = 0 ∨ g = 1 := by omega
          rcases hg with rfl | rfl <;> omega
        · obtain ⟨ns, rfl, ln, hns⟩ := One.intsR o fun _ _ _ h => h
          walk_at "xx"
          refine tp_new (lst_of e13) fun tp H14 n14 s14 e14 => ?_
          walk_at "xx"
          rename_i p7 H15 n15 s15 e15
          refine ⟨.found ns, p7, _, rfl, s12.trans (s13.trans (s14.trans s15)), ⟨⟨fun z => by rw [z] at ln; simp only [List.length_nil] at ln; omega, by omega, hns⟩, fun ms z => by cases z; omega⟩, .tup e15 (.cons (.str _) (.cons (.tup (s15 _ _ e14) (tp_ints ns)) .nil))⟩
      · walk_at "xx"
        exact ⟨.none, pv, none, rfl, Same.refl _, ⟨True.intro, fun _ z => nomatch z⟩, .tup e8 (.cons (.str _) .nil)⟩
    obtain ⟨vd, vb, x, rfl, s9, hvd, tp9⟩ := p9
    have S9 := S8.trans s9
    have e9s := s9 _ _ e8s
    have tsb9 := tp8.tk s9.tk
    clear S8 e8s tp8 e8 n8 s9
    walk_at "xx"
    walk_at "xx"
    refine c_accR (One fun _ y H => ∃ t : Tk, TkO t ∧ Tp H y t.d) (fun i acc H H' k h => ⟨h.1, fun j y e => (h.2 j y e).imp fun f hf => ⟨hf.1, hf.2.tk k⟩⟩) (fun i acc H hi h => small1000' (by rw [h.1]; omega)) One.zero (fun j H5 acc N M hj s5 o hN hM => ?_) (fun D H5 ys nD s5 e5 o => ?_)
    · refine g_name ⟨rfl, t_yes ?_⟩
      refine iteTT rfl ?_
      walk_at "xx"
      refine ⟨a, zs, _, rfl, (S9.trans s5).seq hS, fun v H6 t s6 ht tv => ?_⟩
      exact hN _ _ s6 (o.snoc (fun _ _ h => h.imp fun f hf => ⟨hf.1, hf.2.tk s6.tk⟩) ⟨t, ht, tv⟩)
    · obtain ⟨ts, tt, lt, hts⟩ := One.data o
      walk_at "xx"
      refine tp_new (lst_of e5) fun tp H6 n6 s6 e6 => ?_
      walk_at "xx"
      rename_i p7 H7 n7 s7 e7
      have k7 := s6.trans s7
      have kk := s5.trans k7
      refine q p7 H7 ⟨rows, sb, vd, ts⟩ (S9.trans kk) ⟨⟨fun z => ?_, by show rows.length ≤ 20; omega, hrw⟩, hsb, hvd, ⟨fun z => ?_, by show ts.length ≤ 60; omega, hts⟩⟩ ⟨_, _, _, e7, tsb9.tk kk.tk, tp9.tk kk.tk, .tup (s7 _ _ e6) (tt.tk k7.tk)⟩
      · have z : rows = [] := z
        rw [z] at lr
        simp only [List.length_nil] at lr
        omega
      · have z : ts = [] := z
        rw [z] at lt
        simp only [List.length_nil] at lt
        omega
end
end K30
-- WIDE
namespace K30
open PySem PySem.Spec PyProof.Rows L2 Wy WN WQ WS WC WE WO WM W3 W4 WR WXD W30

theorem szL_text (k : Nat) : szL "text" k = ("text " : Str) ++ numS k := by
  unfold szL
  rw [join_cons (by simp), WR.join_one]
  refine str_ext ?_
  show tl _ = tl _
  simp only [tl_app]
  rfl
theorem szL_apart (k : Nat) : szL "apart" k = ("apart " : Str) ++ numS k := by
  unfold szL
  rw [join_cons (by simp), WR.join_one]
  refine str_ext ?_
  show tl _ = tl _
  simp only [tl_app]
  rfl
theorem spaced {x y : Str} {r : List Str} (h : r ≠ []) (e : y = x ++ WR.SP) : Txt.join WR.SP (x :: r) = y ++ Txt.join WR.SP r := by
  rw [join_cons h, e]
  refine str_ext ?_
  show tl _ = tl _
  simp only [tl_app, List.append_assoc]
def _root_.WR.Tk.l0 : Tk → Str
  | .on => "on"
  | .over => "over"
  | .dead _ => "dead"
  | .met _ => "met"
def _root_.WR.Tk.l1 : Tk → Str
  | .dead ns => (Tk.dead ns).l
  | t => t.l0
theorem dead_ne {ns : List Nat} (h : ns ≠ []) : decide (V.str (Tk.dead ns).l = V.str "met") = false := decide_eq_false fun e => by
  have e := congrArg (fun z => (tl z)[0]?) (V.str.inj e)
  have e2 : (tl (Tk.dead ns).l)[0]? = some 100 := by
    show (tl (Txt.join WR.SP (("dead" : Str) :: ns.map numS)))[0]? = some 100
    rw [join_cons (by simpa using h), tl_app]
    rfl
  have e3 : (tl ("met" : Str))[0]? = some 109 := by decide +kernel
  have e : (tl (Tk.dead ns).l)[0]? = (tl ("met" : Str))[0]? := e
  rw [e2, e3] at e
  cases e
theorem tk_ints {H : Hp} {v : V} {d : PyData} {t : Str} (h : Tp H v (.tuple [.str t, d])) : ∃ a v2, v = .ref a ∧ H a = some (.tup [.str t, v2]) ∧ Tp H v2 d := by
  obtain ⟨a, v1, v2, rfl, e, t1, t2⟩ := tp2 h
  cases t1
  exact ⟨a, v2, rfl, e, t2⟩
theorem nats_ints (ns : List Nat) : (ns.map fun n : Nat => V.int (n : Int)) = (ns.map fun n : Nat => (n : Int)).map V.int := by
  rw [List.map_map]
  rfl
theorem nats_str (ns : List Nat) : (ns.map fun n : Nat => (n : Int)).map intS = ns.map numS := by
  rw [List.map_map]
  rfl
section
variable {P : Program} {w : World} {K : PySem.W.Frag} {mg : Str → Option Value} {base : Heap}
def spJoined : Sp := fun vs H Q _ => ∃ (a : Addr) (s : Str) (ns : List Int), vs = [.ref a, .str s] ∧ H a = some (.tup (ns.map V.int)) ∧ s.length ≤ 5 ∧ ns.length ≤ 100 ∧ (∀ n ∈ ns, n.natAbs < 10 ^ 12) ∧ ∀ H', Same H H' → Q (.str (Txt.join s (ns.map intS))) H'
theorem k_law_joined (T : Tx K mg) : C8.Cal P w K mg base 1 "_law_joined" spJoined [] := by
  refine cal_of (N := n_law_joined) T.d_law_joined sc_law_joined (fun _ _ F => F.bindsN fun _ _ _ _ _ _ us hl => match us, hl with | [_, _], _ => rfl) (fun vs H Q E h => ?_) (fun f cdv A outer s H vs Q E hr h => ?_)
  · obtain ⟨_, _, _, rfl, _⟩ := h
    rfl
  · obtain ⟨a, s', ns, rfl, ea, ls, ln, hb, q⟩ := h
    refine ⟨_, (pss_one (ps_ret (pe_join2 (pv 1) (pe_lc (own := [("number", 2)]) (g := gName 2) (tt := tYes) (by rfl) sc_law_joined.nd (pi_tup (pv 0) : PI _ _ _ (iTup K _)) (blkOk_by (own := [("number", 2)]) (N := n_law_joined) (sc := defScope s_law_joined) (by decide +kernel)) (fun _ _ _ _ _ => pg_name (i := 2) sc_law_joined.nd rfl (Or.inl rfl)) (fun _ _ _ _ _ => pts_nil) (fun _ _ _ _ _ => (pe_callTy (WXD.call_strA : CallR _ _ WXD.rStrA) (by rfl) T.z_str (by decide +kernel) (pa_cons (pv 2) pa_nil)))) : PE _ _ (tM1 (rJoin K) _ _)))), ?_⟩
    walk_at "xx"
    refine c_sel (p := fun _ => true) (F := fun n : Int => PyData.int n) (G := fun n => PyData.str (intS n)) (.inr ⟨rfl, tup_of ea⟩) (tp_ints ns) (by omega) (fun x => rfl) (fun x u H1 N hx t s1 hN => ?_) (fun n u H1 N hn hp t s1 hN => ?_) (fun D H1 ys nD s1 e1 t => ?_)
    · walk_at "xx"
      exact hN H1 (Same.refl _)
    · cases t
      walk_at "xx"
      refine c_strI (by have := hb n hn; omega) ?_
      exact hN _ H1 (Same.refl _) (.str _)
    · have e : ns.filter (fun _ => true) = ns := List.filter_eq_self.mpr fun _ _ => rfl
      rw [e] at t
      have ey : ys = (ns.map intS).map V.str := tp_strs (by rw [List.map_map]; exact t)
      subst ey
      refine m_join (lst_of e1) ?_ ?_
      · have h1 := sum_len (ps := ns.map intS) (B := 13) fun p hp => by
          obtain ⟨n, hn, rfl⟩ := List.mem_map.mp hp
          exact int_len (hb n hn)
        rw [List.length_map] at h1 ⊢
        have h2 : ns.length * s'.length ≤ 100 * 5 := Nat.mul_le_mul ln ls
        omega
      · exact q H1 s1
def spLines (K : PySem.W.Frag) : Sp := fun vs H Q _ => ∃ (b : Addr) (p : Pp), vs = [.ref b] ∧ PartsAt H b p ∧ p.ok ∧ ∀ l H', Same H H' → H' l = some (.lst (p.lines.map V.str)) → Q (.ref l) H'
theorem k_law_lines (T : Tx K mg) : C8.Cal P w K mg base 2 "_law_lines" (spLines K) [] := by
  refine cal_of (N := n_law_lines) T.d_law_lines sc_law_lines (fun _ _ F => F.bindsN fun _ _ _ _ _ _ us hl => match us, hl with | [_], _ => rfl) (fun vs H Q E h => ?_) (fun f cdv A outer s H vs Q E hr h => ?_)
  · obtain ⟨_, _, rfl, _⟩ := h
    rfl
  · obtain ⟨b, p, rfl, hb, hp, q⟩ := h
    obtain ⟨sv, vv, tv, eb, t1, t2, t3⟩ := hb
    refine ⟨_, (pss_cons (ps_asg (pv 0) (pg_tup (by rfl) (pgs_cons (pg_name (i := 1) sc_law_lines.nd rfl (Or.inl rfl)) (pgs_cons (pg_name (i := 2) sc_law_lines.nd rfl (Or.inl rfl)) (pgs_cons (pg_name (i := 3) sc_law_lines.nd rfl (Or.inl rfl)) (pgs_cons (pg_name (i := 4) sc_law_lines.nd rfl (Or.inl rfl)) pgs_nil)))) : PG _ _ (gTup K _ _))) (pss_cons (ps_asg (pe_op op_add3 (pe_lst (pa_cons (pe_op op_add3 pe_str (pe_callTy (WXD.call_strA : CallR _ _ WXD.rStrA) (by rfl) T.z_str (by decide +kernel) (pa_cons (pe_callB (call_len2 : CallR _ _ (rLn K)) (by rfl) T.z_len (by decide +kernel) (pa_cons (WC.pe_bmK (K := K) PySem.F.plainAttrs_str PySem.F.slot_str_split PySem.F.type_str_split (WV.mt_split1 : MtR _ _ WV.rSplit1) (pv 1) (pa_cons pe_str pa_nil)) pa_nil)) pa_nil))) pa_nil)) (WC.pe_bmK (K := K) PySem.F.plainAttrs_str PySem.F.slot_str_split PySem.F.type_str_split (WV.mt_split1 : MtR _ _ WV.rSplit1) (pv 1) (pa_cons pe_str pa_nil))) (pg_name (i := 5) sc_law_lines.nd rfl (Or.inl rfl))) (C8.pss_cut (ps_if (pt_cmpR (op_eq2 hr.units : OpR _ _ (rEq2 K)) (pe_ix (ix_seq : IxR _ (rIx K)) (pv 2) pe_int (fun _ _ => rfl)) pe_str (nomark _)) (pss_one (ps_expr (pe_bm PySem.F.plainAttrs_list PySem.F.slot_list_append PySem.F.type_list_append mt_append (pv 5) (pa_cons (pe_op op_add3 pe_str (pe_ix (ix_seq : IxR _ (rIx K)) (pv 2) pe_int (fun _ _ => rfl))) pa_nil) : PE _ _ (tBM K _ _ _ _)))) (pss_one (ps_asg (pe_op op_add3 (pe_op op_add3 (pv 5) (pe_lst (pa_cons (pe_op op_add3 pe_str (pe_callTy (WXD.call_strA : CallR _ _ WXD.rStrA) (by rfl) T.z_str (by decide +kernel) (pa_cons (pe_callB (call_len2 : CallR _ _ (rLn K)) (by rfl) T.z_len (by decide +kernel) (pa_cons (WC.pe_bmK (K := K) PySem.F.plainAttrs_str PySem.F.slot_str_split PySem.F.type_str_split (WV.mt_split1 : MtR _ _ WV.rSplit1) (pe_ix (ix_seq : IxR _ (rIx K)) (pv 2) pe_int (fun _ _ => rfl)) (pa_cons pe_str pa_nil)) pa_nil)) pa_nil))) pa_nil))) (WC.pe_bmK (K := K) PySem.F.plainAttrs_str PySem.F.slot_str_split PySem.F.type_str_split (WV.mt_split1 : MtR _ _ WV.rSplit1) (pe_ix (ix_seq : IxR _ (rIx K)) (pv 2) pe_int (fun _ _ => rfl)) (pa_cons pe_str pa_nil))) (pg_name (i := 5) sc_law_lines.nd rfl (Or.inl rfl))))) (C8.pss_cut (ps_if (pt_cmpR (op_eq2 hr.units : OpR _ _ (rEq2 K)) (pe_ix (ix_seq : IxR _ (rIx K)) (pv 3) pe_int (fun _ _ => rfl)) pe_str (nomark _)) (pss_one (ps_expr (pe_bm PySem.F.plainAttrs_list PySem.F.slot_list_append PySem.F.type_list_append mt_append (pv 5) (pa_cons pe_str pa_nil) : PE _ _ (tBM K _ _ _ _)))) (pss_one (ps_expr (pe_bm PySem.F.plainAttrs_list PySem.F.slot_list_append PySem.F.type_list_append mt_append (pv 5) (pa_cons (pe_op op_add3 pe_str (C8.pe_c (k_law_joined T) hr (by first | decide | omega) (by rfl) (pa_cons (pe_ix (ix_seq : IxR _ (rIx K)) (pv 3) pe_int (fun _ _ => rfl)) (pa_cons pe_str pa_nil)))) pa_nil) : PE _ _ (tBM K _ _ _ _))))) (pss_cons (ps_for PassesOwn.never rfl (pi_tup (pv 4) : PI _ _ _ (iTup K _)) (pg_name (i := 6) sc_law_lines.nd rfl (Or.inl rfl)) (pss_cons (ps_asg (pe_ix (ix_seq : IxR _ (rIx K)) (pv 6) pe_int (fun _ _ => rfl)) (pg_name (i := 7) sc_law_lines.nd rfl (Or.inl rfl))) (C8.pss_cut (ps_if (pt_cmpR (op_eq2 hr.units : OpR _ _ (rEq2 K)) (pv 7) pe_str (nomark _)) (pss_one (ps_asg (pe_op op_add3 pe_str (C8.pe_c (k_law_joined T) hr (by first | decide | omega) (by rfl) (pa_cons (pe_ix (ix_seq : IxR _ (rIx K)) (pv 6) pe_int (fun _ _ => rfl)) (pa_cons pe_str pa_nil)))) (pg_name (i := 7) sc_law_lines.nd rfl (Or.inl rfl)))) pss_nil) (C8.pss_cut (ps_if (pt_cmpR (op_eq2 hr.units : OpR _ _ (rEq2 K)) (pv 7) pe_str (nomark _)) (pss_one (ps_asg (pe_op op_add3 pe_str (pe_join2 pe_str (pe_lc (own := [("floor", 8)]) (g := gName 8) (tt := tYes) (by rfl) sc_law_lines.nd (pi_tup (pe_ix (ix_seq : IxR _ (rIx K)) (pv 6) pe_int (fun _ _ => rfl)) : PI _ _ _ (iTup K _)) (blkOk_by (own := [("floor", 8)]) (N := n_law_lines) (sc := defScope s_law_lines) (by decide +kernel)) (fun _ _ _ _ _ => pg_name (i := 8) sc_law_lines.nd rfl (Or.inl rfl)) (fun _ _ _ _ _ => pts_nil) (fun _ _ _ _ _ => (C8.pe_c (k_law_joined T) hr (by first | decide | omega) (by rfl) (pa_cons (pv 8) (pa_cons pe_str pa_nil))))) : PE _ _ (tM1 (rJoin K) _ _))) (pg_name (i := 7) sc_law_lines.nd rfl (Or.inl rfl)))) pss_nil) (pss_one (ps_expr (pe_bm PySem.F.plainAttrs_list PySem.F.slot_list_append PySem.F.type_list_append mt_append (pv 5) (pa_cons (pv 7) pa_nil) : PE _ _ (tBM K _ _ _ _)))))))) (pss_one (ps_ret (pv 5)))))))), ?_⟩
    walk_at "xx"
    have hrl := rows_join hp.r.2.1 hp.r.2.2
    have hrn := hp.r.2.1
    have small : ∀ n : Nat, n ≤ 100000 → n ≤ sizeLine := fun n h => by rw [sizeLine_eq]; omega
    have ltext : (Str.ofString "text ").length = 5 := by decide +kernel
    have lapart : (Str.ofString "apart ").length = 6 := by decide +kernel
    have lplace : (Str.ofString "place ").length = 6 := by decide +kernel
    refine ⟨rfl, ?_⟩
    walk_at "xx"
    refine WV.m_split (by decide +kernel) (small _ (by omega)) fun c1 H1 n1 s1 e1 => ?_
    rw [split_nl hp.r.1 (fun l hl => (hp.r.2.2 l hl).no)] at e1
    walk_at "xx"
    refine b_lenL (lst_of e1) ?_
    rw [List.length_map]
    walk_at "xx"
    refine c_strI (by omega) ?_
    have ek : Str.ofString (toString ((p.rows.length : Nat) : Int)) = numS p.rows.length := rfl
    have lk := (num_len (n := p.rows.length) (m := 12) (by decide) (by omega)).2
    refine o_addS (small _ (by rw [ek, ltext]; omega)) ?_
    rw [ek, show Str.ofString "text " ++ numS p.rows.length = szL "text" p.rows.length from (szL_text _).symm]
    walk_at "xx"
    rename_i c2 H2 n2 s2 e2
    refine ⟨rfl, ?_⟩
    walk_at "xx"
    refine WV.m_split (by decide +kernel) (small _ (by omega)) fun c3 H3 n3 s3 e3 => ?_
    rw [split_nl hp.r.1 (fun l hl => (hp.r.2.2 l hl).no)] at e3
    refine o_addL (s3 _ _ e2) e3 (small _ (by simp only [List.length_map, List.length_cons, List.length_nil]; omega)) fun l H4 n4 s4 e4 => ?_
    have e4 : H4 l = some (.lst ((szL "text" p.rows.length :: p.rows).map V.str)) := e4
    have S4 := s1.trans (s2.trans (s3.trans s4))
    have nl : H l = none := (s1.trans (s2.trans s3)).free n4
    clear s1 s2 s3 s4 n1 n2 n3 n4 e1 e2 e3
    have t1 := t1.tk S4.tk
    walk_at "xx"
    refine s_cut (fun σ H' => ∃ l, σ = [some (.ref b), some (.str (Txt.join NL p.rows)), some (sv), some (vv), some (tv), some (.ref l), none, none, none] ∧ Same H H' ∧ H l = none ∧ H' l = some (.lst ((szL "text" p.rows.length :: p.rows ++ p.sb.ls).map V.str))) ?_ (fun σ H5 p5 => ?_)
    · have hs := hp.s
      cases hb : p.sb with
      | place t =>
        rw [hb] at hs t1
        have hs : RowOk 40 t := hs
        obtain ⟨a1, v2, rfl, ea, tv2⟩ := tk_ints t1
        cases tv2
        walk_at "xx"
        refine m_ty (lst_of e4) ?_
        walk_at "xx"
        refine o_addS (small _ (by rw [lplace]; have := hs.len; omega)) ?_
        walk_at "xx"
        refine m_app e4 (small1000' (by simp only [List.length_map, List.length_cons]; omega)) fun H5 c5 e5 => ?_
        walk_at "xx"
        refine ⟨l, rfl, c5.same S4 nl, nl, ?_⟩
        rw [List.map_append]
        exact e5
      | apart ls =>
        rw [hb] at hs t1
        obtain ⟨g1, g2, g3⟩ := hs
        have hj := rows_join g2 g3
        obtain ⟨a1, v2, rfl, ea, tv2⟩ := tk_ints t1
        cases tv2
        walk_at "xx"
        refine ⟨rfl, ?_⟩
        walk_at "xx"
        refine WV.m_split (by decide +kernel) (small _ (by omega)) fun c1 H5 n1 s1 e1 => ?_
        rw [split_nl g1 (fun l hl => (g3 l hl).no)] at e1
        walk_at "xx"
        refine b_lenL (lst_of e1) ?_
        rw [List.length_map]
        walk_at "xx"
        refine c_strI (by omega) ?_
        have ek : Str.ofString (toString ((ls.length : Nat) : Int)) = numS ls.length := rfl
        have lk := (num_len (n := ls.length) (m := 12) (by decide) (by omega)).2
        refine o_addS (small _ (by rw [ek, lapart]; omega)) ?_
        rw [ek, show Str.ofString "apart " ++ numS ls.length = szL "apart" ls.length from (szL_apart _).symm]
        walk_at "xx"
        rename_i c2 H6 n2 s2 e2
        refine o_addL ((s1.trans s2) _ _ e4) e2 (small _ (by simp only [List.length_map, List.length_cons, List.length_nil]; omega)) fun l2 H7 n7 s7 e7 => ?_
        have ea7 := (s1.trans (s2.trans s7)) _ _ ea
        walk_at "xx"
        refine ⟨rfl, ?_⟩
        walk_at "xx"
        refine WV.m_split (by decide +kernel) (small _ (by omega)) fun c3 H8 n3 s3 e3 => ?_
        rw [split_nl g1 (fun l hl => (g3 l hl).no)] at e3
        refine o_addL (s3 _ _ e7) e3 (small _ (by simp only [List.length_map, List.length_cons, List.length_nil, List.length_append]; omega)) fun l3 H9 n9 s9 e9 => ?_
        walk_at "xx"
        have S9 := s1.trans (s2.trans (s7.trans (s3.trans s9)))
        refine ⟨l3, rfl, S4.trans S9, S4.free ((s1.trans (s2.trans (s7.trans s3))).free n9), ?_⟩
        rw [e9]
        simp only [Sb.ls, List.map_append, List.map_cons, List.map_nil, List.append_assoc, List.cons_append, List.nil_append]
    clear t1
    obtain ⟨l, rfl, S5, nl, e5⟩ := p5
    have t2 := t2.tk S5.tk
    have lbase : (szL "text" p.rows.length :: p.rows ++ p.sb.ls).length ≤ 50 := by
      have := sb_count hp.s
      simp only [List.length_cons, List.length_append]
      omega
    refine s_cut (fun σ H' => σ = [some (.ref b), some (.str (Txt.join NL p.rows)), some (sv), some (vv), some (tv), some (.ref l), none, none, none] ∧ Same H H' ∧ H' l = some (.lst ((szL "text" p.rows.length :: p.rows ++ p.sb.ls ++ [p.vd.l]).map V.str))) ?_ (fun σ H6 p6 => ?_)
    · have hv := hp.v.1
      cases hvd : p.vd with
      | none =>
        rw [hvd] at t2
        obtain ⟨va, us, rfl, ev, t⟩ := tpL t2
        cases t with | cons t1 t2 =>
        cases t1
        cases t2
        walk_at "xx"
        refine m_ty (lst_of e5) ?_
        walk_at "xx"
        refine m_app e5 (small1000' (by rw [List.length_map]; omega)) fun H6 c6 e6 => ?_
        walk_at "xx"
        refine ⟨rfl, c6.same S5 nl, ?_⟩
        rw [List.map_append]
        exact e6
      | found ns =>
        rw [hvd] at t2 hv
        obtain ⟨g1, g2, g3⟩ := hv
        obtain ⟨va, v2, rfl, ev, tv2⟩ := tk_ints t2
        obtain ⟨b1, us, rfl, eb1, tu⟩ := tpL tv2
        obtain rfl := ints_tp tu
        have hl := vd_len (d := .found ns) ⟨g1, g2, g3⟩
        have esp : (Vd.l (.found ns)) = Str.ofString "found " ++ Txt.join WR.SP (ns.map intS) := spaced (by simpa using g1) (by decide +kernel)
        have lsp := congrArg Str.length esp
        rw [app_len] at lsp
        walk_at "xx"
        refine m_ty (lst_of e5) ?_
        walk_at "xx"
        refine ⟨b1, _, ns, rfl, eb1, by decide +kernel, by omega, g3, fun H6 s6 => ?_⟩
        refine o_addS (small _ (by show _ + (Txt.join WR.SP (ns.map intS)).length ≤ _; omega)) ?_
        rw [show Str.ofString "found " ++ Txt.join (Str.ofString " ") (ns.map intS) = Vd.l (.found ns) from esp.symm]
        walk_at "xx"
        refine m_app (s6 _ _ e5) (small1000' (by rw [List.length_map]; omega)) fun H7 c7 e7 => ?_
        walk_at "xx"
        refine ⟨rfl, c7.same (S5.trans s6) nl, ?_⟩
        rw [List.map_append]
        exact e7
    clear S5 e5 t2
    obtain ⟨rfl, S6, e6⟩ := p6
    obtain ⟨ta, us, rfl, et, tt⟩ := tpL t3
    have lus := tt.length
    rw [List.length_map] at lus
    have htl := hp.t.2.1
    walk_at "xx"
    refine f_tup (xs := us) (fun i σ H' => ∃ x y, σ = [some (.ref b), some (.str (Txt.join NL p.rows)), some (sv), some (vv), some (.ref ta), some (.ref l), x, y, none] ∧ Same H H' ∧ i ≤ us.length ∧ H' l = some (.lst ((szL "text" p.rows.length :: p.rows ++ p.sb.ls ++ [p.vd.l] ++ (p.ts.take i).map Tk.l).map V.str))) ⟨none, none, rfl, S6, Nat.zero_le _, by rw [List.take_zero, List.map_nil, List.append_nil]; exact e6⟩ (fun i σ H' hi z => tup_of (z.choose_spec.choose_spec.2.1 _ _ et)) (fun i u σ H7 hx z => ?_) (fun σ H7 z => ?_)
    · obtain ⟨x, y, rfl, S7, hi, e7⟩ := z
      obtain ⟨t, ht, tu⟩ := tpGet tt hx
      have hto := (hp.t.2.2 t (List.mem_of_getElem? ht)).1
      have tu := tu.tk S7.tk
      have hi2 := (List.getElem?_eq_some_iff.mp hx).1
      have lh : (szL "text" p.rows.length :: p.rows ++ p.sb.ls ++ [p.vd.l] ++ (p.ts.take i).map Tk.l).length ≤ 200 := by
        rw [List.length_append, List.length_append, List.length_map, List.length_take]
        simp only [List.length_cons, List.length_nil]
        omega
      have fin : ∀ H8, Same H7 H8 → ∀ H9, Chg l H8 H9 → H9 l = some (.lst ((szL "text" p.rows.length :: p.rows ++ p.sb.ls ++ [p.vd.l] ++ (p.ts.take i).map Tk.l).map V.str ++ [.str t.l])) → Same H H9 ∧ i + 1 ≤ us.length ∧ H9 l = some (.lst ((szL "text" p.rows.length :: p.rows ++ p.sb.ls ++ [p.vd.l] ++ (p.ts.take (i + 1)).map Tk.l).map V.str)) := fun H8 s8 H9 c9 e9 => by
        refine ⟨c9.same (S7.trans s8) nl, hi2, ?_⟩
        rw [List.take_add_one, ht, List.map_append (l₁ := List.take i p.ts), ← List.append_assoc, List.map_append (f := V.str)]
        exact e9
      have hl := tk_len hto
      have step : ∃ ab w rs, u = .ref ab ∧ H7 ab = some (.tup (.str w :: rs)) ∧ w = t.l0 := by
        cases t with
        | on => obtain ⟨ab, us, rfl, e, tt⟩ := tpL tu; cases tt with | cons t1 t2 => cases t1; exact ⟨ab, _, _, rfl, e, rfl⟩
        | over => obtain ⟨ab, us, rfl, e, tt⟩ := tpL tu; cases tt with | cons t1 t2 => cases t1; exact ⟨ab, _, _, rfl, e, rfl⟩
        | dead ns => obtain ⟨ab, us, rfl, e, tt⟩ := tpL tu; cases tt with | cons t1 t2 => cases t1; exact ⟨ab, _, _, rfl, e, rfl⟩
        | met fs => obtain ⟨ab, us, rfl, e, tt⟩ := tpL tu; cases tt with | cons t1 t2 => cases t1; exact ⟨ab, _, _, rfl, e, rfl⟩
      obtain ⟨ab, wl, rs, rfl, eab, rfl⟩ := step
      walk_at "xx"
      refine s_cut (fun σ H' => σ = [some (.ref b), some (.str (Txt.join NL p.rows)), some (sv), some (vv), some (.ref ta), some (.ref l), some (.ref ab), some (.str t.l1), none] ∧ Same H7 H') ?_ (fun σ H8 p8 => ?_)
      · cases t with
        | on =>
          walk_at "xx"
          exact ⟨rfl, Same.refl _⟩
        | over =>
          walk_at "xx"
          exact ⟨rfl, Same.refl _⟩
        | met fs =>
          rw [show (Tk.met fs).l0 = Str.ofString "met" from rfl]
          walk_at "xx"
          exact ⟨rfl, Same.refl _⟩
        | dead ns =>
          obtain ⟨g1, g2, g3⟩ := hto
          obtain ⟨ab2, v2, eq2, ev, tv2⟩ := tk_ints tu
          cases eq2
          obtain ⟨b1, rfl, eb1⟩ := nats_v tv2
          rw [nats_ints] at eb1
          have esp : (Tk.l (.dead ns)) = Str.ofString "dead " ++ Txt.join WR.SP (ns.map numS) := spaced (by simpa using g1) (by decide +kernel)
          have lsp := congrArg Str.length esp
          rw [app_len] at lsp
          rw [show (Tk.dead ns).l0 = Str.ofString "dead" from rfl]
          walk_at "xx"
          refine ⟨b1, _, _, rfl, eb1, by decide +kernel, by rw [List.length_map]; omega, fun n hn => ?_, fun H8 s8 => ?_⟩
          · obtain ⟨m, hm, rfl⟩ := List.mem_map.mp hn
            have := g3 m hm
            omega
          rw [nats_str]
          refine o_addS (small _ (by show _ + (Txt.join WR.SP (ns.map numS)).length ≤ _; omega)) ?_
          rw [show Str.ofString "dead " ++ Txt.join (Str.ofString " ") (ns.map numS) = Tk.l (.dead ns) from esp.symm]
          walk_at "xx"
          exact ⟨rfl, s8⟩
      obtain ⟨rfl, s8⟩ := p8
      have tu8 := tu.tk s8.tk
      have e8 := s8 _ _ e7
      refine s_cut (fun σ H' => σ = [some (.ref b), some (.str (Txt.join NL p.rows)), some (sv), some (vv), some (.ref ta), some (.ref l), some (.ref ab), some (.str t.l), none] ∧ Same H8 H') ?_ (fun σ H9 p9 => ?_)
      · cases t with
        | on =>
          walk_at "xx"
          exact ⟨rfl, Same.refl _⟩
        | over =>
          walk_at "xx"
          exact ⟨rfl, Same.refl _⟩
        | dead ns =>
          walk_at "xx"
          refine iteFF (dead_ne hto.1) ?_
          walk_at "xx"
          exact ⟨rfl, Same.refl _⟩
        | met fs =>
          obtain ⟨g1, g2, g3⟩ := hto
          obtain ⟨ab2, v2, eq2, ev, tv2⟩ := tk_ints tu8
          cases eq2
          obtain ⟨b1, us2, rfl, eb1, tus⟩ := tpL tv2
          have esp : (Tk.l (.met fs)) = Str.ofString "met " ++ Txt.join WR.SP (fs.map fun f => Txt.join CM (f.map numS)) := spaced (by simpa using g1) (by decide +kernel)
          have lsp := congrArg Str.length esp
          rw [app_len] at lsp
          rw [show (Tk.met fs).l1 = Str.ofString "met" from rfl]
          walk_at "xx"
          refine c_sel (p := fun _ => true) (F := natsD) (G := fun f => PyData.str (Txt.join CM (f.map numS))) (.inr ⟨rfl, tup_of eb1⟩) tus (by omega) (fun x => rfl) (fun x u H1 N hx t s1 hN => ?_) (fun f u H1 N hx hp t s1 hN => ?_) (fun D H9 ys nD s9 e9 t => ?_)
          · walk_at "xx"
            exact hN H1 (Same.refl _)
          · obtain ⟨c, rfl, ec⟩ := nats_v t
            rw [nats_ints] at ec
            obtain ⟨f1, f2, f3⟩ := g3 f hx
            walk_at "xx"
            refine ⟨c, _, _, rfl, ec, by decide +kernel, by rw [List.length_map]; omega, fun n hn => ?_, fun H2 s2 => ?_⟩
            · obtain ⟨m, hm, rfl⟩ := List.mem_map.mp hn
              have := f3 m hm
              omega
            rw [nats_str]
            exact hN _ H2 s2 (.str _)
          · have e : fs.filter (fun _ => true) = fs := List.filter_eq_self.mpr fun _ _ => rfl
            rw [e] at t
            have ey : ys = (fs.map fun f => Txt.join CM (f.map numS)).map V.str := tp_strs (by rw [List.map_map]; exact t)
            subst ey
            refine m_join (lst_of e9) ?_ ?_
            · have h1 := sum_len (ps := fs.map fun f : List Nat => Txt.join CM (f.map numS)) (B := 130) fun p hp => by
                obtain ⟨f, hf, rfl⟩ := List.mem_map.mp hp
                exact fl_len (g3 f hf).2.1 (g3 f hf).2.2
              have e : (Str.ofString " ").length = 1 := rfl
              rw [e]
              rw [List.length_map] at h1 ⊢
              omega
            refine o_addS (small _ (by show _ + (Txt.join WR.SP (fs.map fun f => Txt.join CM (f.map numS))).length ≤ _; omega)) ?_
            rw [show Str.ofString "met " ++ Txt.join (Str.ofString " ") (fs.map fun f => Txt.join CM (f.map numS)) = Tk.l (.met fs) from esp.symm]
            walk_at "xx"
            exact ⟨rfl, s9⟩
      obtain ⟨rfl, s9⟩ := p9
      have e9 := s9 _ _ e8
      walk_at "xx"
      refine m_ty (lst_of e9) ?_
      walk_at "xx"
      refine m_app e9 (small1000' (by rw [List.length_map]; omega)) fun H10 c10 e10 => ?_
      walk_at "xx"
      exact ⟨_, _, rfl, fin H9 (s8.trans s9) H10 c10 e10⟩
    · obtain ⟨x, y, rfl, S7, hi, e7⟩ := z
      walk_at "xx"
      refine q l H7 S7 ?_
      rw [lus, List.take_of_length_le (Nat.le_refl _)] at e7
      rw [e7]
      unfold Pp.lines
      simp only [List.append_assoc, List.cons_append, List.nil_append]
end
end K30
-- WIDE
namespace K30
open PySem PySem.Spec PyProof.Rows L2 Wy WN WQ WS WC WE WO WM W3 W4 WR WXD W30
/-! ### what rows of good papers read as -/
theorem szO_szL {z : Str} {k : Nat} (hz : 32 ∉ tl z) (k0 : 0 < k) (k1 : k < 10 ^ 12) : szO z (szL z k) = some (k : Int) := by
  have es : Txt.split (szL z k) SP = [z, numS k] := split_sp (by simp) fun p hp => by
    simp only [List.mem_cons, List.not_mem_nil, or_false] at hp
    rcases hp with rfl | rfl
    · exact hz
    · exact num_no (.inl (by decide))
  unfold szO
  rw [es]
  show (if z = z then (match nmO (numS k) with | none => none | some n => if n = 0 then none else some n) else none) = _
  rw [if_pos rfl, nmO_num k1]
  show (if (k : Int) = 0 then none else some (k : Int)) = _
  rw [if_neg (by omega)]
theorem sgO_int {n : Int} (h : n.natAbs < 10 ^ 12) : sgO (intS n) = some n := by
  unfold sgO
  rw [int_starts]
  by_cases c : n < 0
  · rw [decide_eq_true c, if_pos rfl, int_neg c, cut_one _ _ (by decide +kernel), nmO_num (by omega)]
    show (if (((-n).toNat : Nat) : Int) = 0 then none else some (-(((-n).toNat : Nat) : Int))) = _
    rw [if_neg (by omega)]
    congr 1
    omega
  · rw [decide_eq_false c, if_neg Bool.false_ne_true, int_nat (by omega), nmO_num (by omega)]
    congr 1
    omega
theorem wnO_ok {z : Str} {ds : List PyData} (h : ds ≠ []) (h2 : ∀ d ∈ ds, isN d = false) : wnO z z ds = .tuple [.str z, .tuple ds] := by
  unfold wnO
  rw [decide_eq_true rfl]
  have h3 : ds.isEmpty = false := by
    cases ds with
    | nil => exact absurd rfl h
    | cons _ _ => rfl
  have h4 : ds.any isN = false := by
    rw [List.any_eq_false]
    intro d hd
    rw [h2 d hd]
    exact Bool.false_ne_true
  rw [h3, h4]
  rfl
theorem nmO_map {ns : List Nat} (h : ∀ n ∈ ns, n < 10 ^ 12) : (ns.map numS).map (fun x => iD (nmO x)) = ns.map fun n : Nat => PyData.int (n : Int) := by
  rw [List.map_map]
  refine List.map_congr_left fun n hn => ?_
  show iD (nmO (numS n)) = _
  rw [nmO_num (h n hn)]
  rfl
theorem cmO_ok {f : List Nat} (hf : f ≠ []) (h : ∀ n ∈ f, n < 10 ^ 12) : cmO (Txt.join CM (f.map numS)) = natsD f := by
  unfold cmO
  rw [split_fl hf, nmO_map h, if_neg]
  · rfl
  · rw [List.any_map]
    intro z
    obtain ⟨n, _, h⟩ := List.any_eq_true.mp z
    cases h
theorem vdO_ok {v : Vd} (h : v.ok) : vdO v.l = v.d := by
  cases v with
  | none =>
    have e : Txt.split (Vd.l .none) SP = [("none" : Str)] := by decide +kernel
    unfold vdO
    rw [e]
    exact if_pos ⟨rfl, rfl⟩
  | found ns =>
    obtain ⟨h1, h2, h3⟩ := h
    unfold vdO
    rw [split_found]
    show vdL "found" (ns.map intS) = _
    have e : (ns.map intS).map (fun x => iD (sgO x)) = ns.map PyData.int := by
      rw [List.map_map]
      refine List.map_congr_left fun n hn => ?_
      show iD (sgO (intS n)) = _
      rw [sgO_int (h3 n hn)]
      rfl
    unfold vdL
    rw [if_neg (fun z => absurd z.1 (by decide +kernel)), e, wnO_ok (by simpa using h1) (fun d hd => by
      obtain ⟨n, _, rfl⟩ := List.mem_map.mp hd
      rfl)]
    rfl
theorem tkO_ok {t : Tk} (h : t.ok) : tkO t.l = t.d := by
  cases t with
  | on =>
    have e : Txt.split (Tk.l .on) SP = [("on" : Str)] := by decide +kernel
    unfold tkO
    rw [e]
    exact if_pos (.inl ⟨rfl, rfl⟩)
  | over =>
    have e : Txt.split (Tk.l .over) SP = [("over" : Str)] := by decide +kernel
    unfold tkO
    rw [e]
    exact if_pos (.inr ⟨rfl, rfl⟩)
  | dead ns =>
    obtain ⟨h1, h2, h3⟩ := h
    unfold tkO
    rw [split_dead]
    show tkL "dead" (ns.map numS) = _
    unfold tkL
    rw [if_neg (fun z => z.elim (fun z => absurd z.1 (by decide +kernel)) fun z => absurd z.1 (by decide +kernel)), if_neg (by decide +kernel), nmO_map h3, wnO_ok (by simpa using h1) (fun d hd => by
      obtain ⟨n, _, rfl⟩ := List.mem_map.mp hd
      rfl)]
    rfl
  | met fs =>
    obtain ⟨h1, h2, h3⟩ := h
    unfold tkO
    rw [split_met]
    show tkL "met" (fs.map fun f => Txt.join CM (f.map numS)) = _
    have e : (fs.map fun f : List Nat => Txt.join CM (f.map numS)).map cmO = fs.map natsD := by
      rw [List.map_map]
      exact List.map_congr_left fun f hf => cmO_ok (h3 f hf).1 (h3 f hf).2.2
    unfold tkL
    rw [if_neg (fun z => z.elim (fun z => absurd z.1 (by decide +kernel)) fun z => absurd z.1 (by decide +kernel)), if_pos rfl, e, wnO_ok (by simpa using h1) (fun d hd => by
      obtain ⟨n, _, rfl⟩ := List.mem_map.mp hd
      rfl)]
    rfl
theorem vd_notN (v : Vd) : isN v.d = false := by cases v <;> rfl
theorem tk_notN (t : Tk) : isN t.d = false := by cases t <;> rfl
/-! ### the stages of reading -/
theorem readO_bad {l : Str} (h : szO "text" l = none) (r : List Str) : readO (l :: r) = .error 1 := by
  show (match szO "text" l with | none => _ | some k => _) = _
  rw [h]
theorem readO_big {l : Str} {k : Nat} (h : szO "text" l = some (k : Int)) (r : List Str) (hk : r.length ≤ k) : readO (l :: r) = .error (r.length + 2) := by
  have e : readO (l :: r) = if k ≤ r.length then readS (r.length + 1) (1 + k) (Txt.join NL (r.take k)) (r.drop k) else .error (r.length + 1 + 1) := by
    show (match szO "text" l with | none => _ | some k => _) = _
    rw [h]
    rfl
  rw [e]
  split
  · rw [List.drop_eq_nil_of_le hk]
    rfl
  · rfl
theorem readO_text {l : Str} {a r : List Str} (h : szO "text" l = some (a.length : Int)) : readO (l :: a ++ r) = readS (1 + a.length + r.length) (1 + a.length) (Txt.join NL a) r := by
  have e : readO (l :: (a ++ r)) = if a.length ≤ (a ++ r).length then readS ((a ++ r).length + 1) (1 + a.length) (Txt.join NL ((a ++ r).take a.length)) ((a ++ r).drop a.length) else .error ((a ++ r).length + 1 + 1) := by
    show (match szO "text" l with | none => _ | some k => _) = _
    rw [h]
    rfl
  rw [List.cons_append, e, if_pos (by rw [List.length_append]; omega), List.take_left, List.drop_left, List.length_append]
  congr 1
  omega
def sbN (l : Str) : Bool := !Txt.startswith l "place " && (szO "apart" l).isNone
theorem readS_bad {l : Str} (h : sbN l = true) (c n : Nat) (zt : Str) (r : List Str) : readS c n zt (l :: r) = .error (n + 1) := by
  unfold sbN at h
  simp only [Bool.and_eq_true, Bool.not_eq_true', Option.isNone_iff_eq_none] at h
  show (if Txt.startswith l "place " = true then _ else match szO "apart" l with | none => _ | some k => _) = _
  rw [h.1, if_neg Bool.false_ne_true, h.2]
theorem readS_big {l : Str} {k : Nat} (h0 : Txt.startswith l "place " = false) (h : szO "apart" l = some (k : Int)) (c n : Nat) (zt : Str) (r : List Str) (hk : r.length ≤ k) : readS c n zt (l :: r) = .error (c + 1) := by
  have e : readS c n zt (l :: r) = if k ≤ r.length then readV c (n + 1 + k) zt (.tuple [.str "apart", .str (Txt.join NL (r.take k))]) (r.drop k) else .error (c + 1) := by
    show (if Txt.startswith l "place " = true then _ else match szO "apart" l with | none => _ | some k => _) = _
    rw [h0, if_neg Bool.false_ne_true, h]
    rfl
  rw [e]
  split
  · rw [List.drop_eq_nil_of_le hk]
    rfl
  · rfl
theorem apart_head (k : Nat) : (tl (szL "apart" k))[0]? = some 97 := by
  unfold szL
  rw [join_cons (by simp), tl_app]
  rfl
theorem apart_no (k : Nat) : Txt.startswith (szL "apart" k) "place " = false := starts_not (apart_head k) (d := 112) (by decide +kernel) (by decide)
theorem readS_ok {s : Sb} (h : s.ok) (c n : Nat) (zt : Str) (r : List Str) : readS c n zt (s.ls ++ r) = readV c (n + s.ls.length) zt s.d r := by
  cases s with
  | place t =>
    show (if Txt.startswith (PL ++ t) "place " = true then readV c (n + 1) zt (.tuple [.str "place", .str (cutS (PL ++ t) (some 6) none)]) r else _) = _
    have e6 : (6 : Int) = (PL.length : Int) := by decide +kernel
    rw [starts_app, if_pos rfl, e6, cut_pre]
    rfl
  | apart ls =>
    obtain ⟨h1, h2, h3⟩ := h
    have e : readS c n zt (szL "apart" ls.length :: (ls ++ r)) = if ls.length ≤ (ls ++ r).length then readV c (n + 1 + ls.length) zt (.tuple [.str "apart", .str (Txt.join NL ((ls ++ r).take ls.length))]) ((ls ++ r).drop ls.length) else .error (c + 1) := by
      show (if Txt.startswith (szL "apart" ls.length) "place " = true then _ else match szO "apart" (szL "apart" ls.length) with | none => _ | some k => _) = _
      rw [apart_no, if_neg Bool.false_ne_true, szO_szL (by decide +kernel) (List.length_pos_iff.mpr h1) (by omega)]
      rfl
    show readS c n zt (szL "apart" ls.length :: (ls ++ r)) = _
    rw [e, if_pos (by rw [List.length_append]; omega), List.take_left, List.drop_left]
    show readV c (n + 1 + ls.length) zt _ r = readV c (n + (ls.length + 1)) zt _ r
    rw [show n + 1 + ls.length = n + (ls.length + 1) by omega]
    rfl
theorem readV_bad {l : Str} (h : isN (vdO l) = true) (c n : Nat) (zt : Str) (s : PyData) (r : List Str) : readV c n zt s (l :: r) = .error (n + 1) := if_pos h
theorem readV_ok {v : Vd} (h : v.ok) (c n : Nat) (zt : Str) (s : PyData) (r : List Str) : readV c n zt s (v.l :: r) = readT c (n + 1) zt s v.d r := by
  show (if isN (vdO v.l) = true then _ else readT c (n + 1) zt s (vdO v.l) r) = _
  rw [vdO_ok h, vd_notN, if_neg Bool.false_ne_true]
theorem toks_ok : ∀ {ts : List Tk} (n : Nat), (∀ t ∈ ts, t.ok) → toksO n (ts.map Tk.l) = .ok (ts.map Tk.d)
  | [], n, _ => rfl
  | t :: ts, n, h => by
    show (if isN (tkO t.l) = true then _ else match toksO (n + 1) (ts.map Tk.l) with | .error e => _ | .ok us => _) = _
    rw [tkO_ok (h t List.mem_cons_self), tk_notN, if_neg Bool.false_ne_true, toks_ok (n + 1) fun x hx => h x (List.mem_cons_of_mem _ hx)]
    rfl
theorem toks_bad {l : Str} (hl : isN (tkO l) = true) (r : List Str) : ∀ {ts : List Tk} (n : Nat), (∀ t ∈ ts, t.ok) → toksO n (ts.map Tk.l ++ l :: r) = .error (n + ts.length + 1)
  | [], n, _ => if_pos hl
  | t :: ts, n, h => by
    show (if isN (tkO t.l) = true then _ else match toksO (n + 1) (ts.map Tk.l ++ l :: r) with | .error e => _ | .ok us => _) = _
    rw [tkO_ok (h t List.mem_cons_self), tk_notN, if_neg Bool.false_ne_true, toks_bad hl r (n + 1) fun x hx => h x (List.mem_cons_of_mem _ hx)]
    show Except.error _ = Except.error _
    rw [List.length_cons]
    congr 1
    omega
theorem readT_bad {l : Str} (hl : isN (tkO l) = true) (r : List Str) {ts : List Tk} (h : ∀ t ∈ ts, t.ok) (c n : Nat) (zt : Str) (s v : PyData) : readT c n zt s v (ts.map Tk.l ++ l :: r) = .error (n + ts.length + 1) := by
  cases ts with
  | nil =>
    show (match toksO n (l :: r) with | .error e => _ | .ok us => _) = _
    rw [show toksO n (l :: r) = .error (n + 1) from if_pos hl]
    rfl
  | cons t ts =>
    show (match toksO n ((t :: ts).map Tk.l ++ l :: r) with | .error e => _ | .ok us => _) = _
    rw [toks_bad hl r n h]
theorem readT_ok {ts : List Tk} (h0 : ts ≠ []) (h : ∀ t ∈ ts, t.ok) (c n : Nat) (zt : Str) (s v : PyData) : readT c n zt s v (ts.map Tk.l) = .ok ⟨zt, s, v, .tuple (ts.map Tk.d)⟩ := by
  cases ts with
  | nil => exact absurd rfl h0
  | cons t ts =>
    show (match toksO n ((t :: ts).map Tk.l) with | .error e => _ | .ok us => _) = _
    rw [toks_ok n h]
/-! ### good papers and spoilt ones -/
theorem Pp.text {p : Pp} (h : p.ok) : szO "text" (szL "text" p.rows.length) = some (p.rows.length : Int) := szO_szL (by decide +kernel) (List.length_pos_iff.mpr h.r.1) (by have := h.r.2.1; omega)
theorem lines_eq (p : Pp) : p.lines = szL "text" p.rows.length :: p.rows ++ (p.sb.ls ++ (p.vd.l :: p.ts.map Tk.l)) := rfl
theorem lines_len (p : Pp) : p.lines.length = 1 + p.rows.length + (p.sb.ls.length + (1 + p.ts.length)) := by
  rw [lines_eq]
  simp only [List.length_cons, List.length_append, List.length_map]
  omega
theorem read_good {p : Pp} (h : p.ok) : readO p.lines = .ok p.pd := by
  rw [lines_eq, readO_text (Pp.text h), readS_ok h.s, readV_ok h.v.1, readT_ok h.t.1 fun t ht => (h.t.2.2 t ht).1]
  rfl
/-- a paper that is refused at the row behind these, whatever follows -/
def Fail (pre : List Str) (z : Str) : Prop := ∀ X, readO (pre ++ z :: X) = .error (pre.length + 1)
theorem fail_first {z : Str} (h : szO "text" z = none) : Fail [] z := fun X => readO_bad h X
theorem fail_sub {p : Pp} (h : p.ok) {z : Str} (hz : sbN z = true) : Fail (szL "text" p.rows.length :: p.rows) z := fun X => by
  rw [readO_text (Pp.text h), readS_bad hz, List.length_cons]
  congr 1
  omega
theorem fail_verd {p : Pp} (h : p.ok) {z : Str} (hz : isN (vdO z) = true) : Fail (szL "text" p.rows.length :: p.rows ++ p.sb.ls) z := fun X => by
  rw [List.append_assoc, readO_text (Pp.text h), readS_ok h.s, readV_bad hz, List.length_append, List.length_cons]
  congr 1
  omega
theorem fail_tok {p : Pp} (h : p.ok) {z : Str} (hz : isN (tkO z) = true) (i : Nat) (hi : i ≤ p.ts.length) : Fail (szL "text" p.rows.length :: p.rows ++ (p.sb.ls ++ (p.vd.l :: (p.ts.take i).map Tk.l))) z := fun X => by
  have e : szL "text" p.rows.length :: p.rows ++ (p.sb.ls ++ (p.vd.l :: (p.ts.take i).map Tk.l)) ++ z :: X = szL "text" p.rows.length :: p.rows ++ (p.sb.ls ++ (p.vd.l :: ((p.ts.take i).map Tk.l ++ z :: X))) := by
    simp only [List.append_assoc, List.cons_append]
  rw [e, readO_text (Pp.text h), readS_ok h.s, readV_ok h.v.1, readT_bad hz X fun t ht => (h.t.2.2 t (List.mem_of_mem_take ht)).1]
  simp only [List.length_append, List.length_cons, List.length_map]
  congr 1
  omega
/-- cut before the first token -/
theorem read_cut {p : Pp} (h : p.ok) {m : Nat} (h1 : 1 ≤ m) (h2 : m ≤ 1 + p.rows.length + p.sb.ls.length + 1) : readO (p.lines.take m) = .error (m + 1) := by
  have hb := Pp.text h
  by_cases c1 : m ≤ p.rows.length
  · have e : p.lines.take m = szL "text" p.rows.length :: p.rows.take (m - 1) := by
      rw [lines_eq, List.take_append_of_le_length (by rw [List.length_cons]; omega)]
      obtain ⟨j, rfl⟩ : ∃ j, m = j + 1 := ⟨m - 1, by omega⟩
      rfl
    rw [e, readO_big hb _ (by rw [List.length_take]; omega), List.length_take]
    congr 1
    omega
  · obtain ⟨j, rfl⟩ : ∃ j, m = 1 + p.rows.length + j := ⟨m - (1 + p.rows.length), by omega⟩
    have e : p.lines.take (1 + p.rows.length + j) = szL "text" p.rows.length :: p.rows ++ (p.sb.ls ++ (p.vd.l :: p.ts.map Tk.l)).take j := by
      rw [lines_eq, List.take_append, List.take_of_length_le (by rw [List.length_cons]; omega), List.length_cons]
      congr 2
      omega
    rw [e, readO_text hb]
    by_cases c2 : j < p.sb.ls.length
    · rw [List.take_append_of_le_length (by omega)]
      cases j with
      | zero => rfl
      | succ j =>
        cases hs : p.sb with
        | place t =>
          rw [hs] at c2
          have c2 : j + 1 < 1 := c2
          omega
        | apart ls =>
          rw [hs] at c2
          have c2 : j + 1 < ls.length + 1 := c2
          have ho := h.s
          rw [hs] at ho
          obtain ⟨g1, g2, g3⟩ := ho
          show readS _ _ _ (szL "apart" ls.length :: ls.take j) = _
          rw [readS_big (apart_no _) (szO_szL (by decide +kernel) (List.length_pos_iff.mpr g1) (by omega)) _ _ _ _ (by rw [List.length_take]; omega)]
          congr 1
          show 1 + p.rows.length + ((ls.take j).length + 1) + 1 = _
          rw [List.length_take]
          omega
    · obtain ⟨i, rfl⟩ : ∃ i, j = p.sb.ls.length + i := ⟨j - p.sb.ls.length, by omega⟩
      have e2 : (p.sb.ls ++ (p.vd.l :: p.ts.map Tk.l)).take (p.sb.ls.length + i) = p.sb.ls ++ (p.vd.l :: p.ts.map Tk.l).take i := by
        rw [List.take_append, List.take_of_length_le (by omega)]
        congr 2
        omega
      rw [e2, readS_ok h.s]
      have hi : i = 0 ∨ i = 1 := by omega
      rcases hi with rfl | rfl
      · show Except.error _ = Except.error _
        rw [List.take_zero, List.append_nil]
        congr 1
      · show readV _ _ _ _ (p.vd.l :: []) = _
        rw [readV_ok h.v.1]
        show Except.error _ = Except.error _
        rw [List.length_append]
        show Except.error (_ + (_ + 1) + 1) = _
        congr 1
/-- one row too many, and an empty one -/
theorem read_more {p : Pp} (h : p.ok) : readO (p.lines ++ [("" : Str)]) = .error (p.lines.length + 1) := by
  have f := fail_tok h (z := "") (by decide +kernel) p.ts.length (Nat.le_refl _) []
  rw [List.take_length] at f
  exact f
/-- a text or a second program that takes what is left, or more -/
theorem read_wide1 {l : Str} {k : Nat} (hl : szO "text" l = some (k : Int)) (X : List Str) (hk : X.length ≤ k) : readO (l :: X) = .error (X.length + 1 + 1) := readO_big hl X hk
theorem read_wide2 {p : Pp} (h : p.ok) {l : Str} {k : Nat} (h0 : Txt.startswith l "place " = false) (hl : szO "apart" l = some (k : Int)) (X : List Str) (hk : X.length ≤ k) : readO (szL "text" p.rows.length :: p.rows ++ l :: X) = .error (1 + p.rows.length + 1 + X.length + 1) := by
  rw [readO_text (Pp.text h), readS_big h0 hl _ _ _ _ hk, List.length_cons]
  congr 1
  omega
end K30
-- WIDE
namespace K30
open PySem PySem.Spec PyProof.Rows L2 Wy WN WQ WS WC WE WO WM W3 W4 WR WXD W30

/-- rows that a paper is not made of -/
structure BadRow (f : Str → Bool) (z : Str) : Prop where
  no : 10 ∉ tl z
  row : Row z
  bad : f z = true
def badB (f : Str → Bool) (z : Str) : Bool := decide (10 ∉ tl z) && decide (z.length ≤ 2000) && decide (∀ c ∈ tl z, c < 128) && f z
theorem badB_of {f : Str → Bool} {z : Str} (h : badB f z = true) : BadRow f z := by
  unfold badB at h
  simp only [Bool.and_eq_true, decide_eq_true_eq] at h
  exact ⟨h.1.1.1, ⟨h.1.1.2, h.1.2⟩, h.2⟩
theorem bad_at {f : Str → Bool} {L : List Str} (key : ∀ j, j < L.length → badB f (L.getD j "") = true) {j : Nat} (h : j < L.length) : ∃ z, (L.map V.str)[j]? = some (.str z) ∧ BadRow f z := by
  have e : L[j]? = some (L.getD j "") := by
    rw [List.getD_eq_getElem?_getD, List.getElem?_eq_getElem h]
    rfl
  exact ⟨L.getD j "", by rw [List.getElem?_map, e]; rfl, badB_of (key j h)⟩
abbrev fF : Str → Bool := fun z => (szO "text" z).isNone
abbrev fV : Str → Bool := fun z => isN (vdO z)
abbrev fT : Str → Bool := fun z => isN (tkO z)
def SUBJ : List Str := ["place", "places x", "Place x", "", " place x", "plac", "apart", "apart 0", "apart 01", "apart x", "apart -1", "apart 1 ", "found 1", "on", "apart 1000000000000", "apart  1", "apart ", "none"]
def VERD : List Str := ["found", "found ", "none ", " none", "None", "", "found x", "found 01", "found -0", "found -01", "found 1 ", "found  1", "found 1  2", "found +1", "found 1,2", "found -", "found 1000000000000", "found --1", "nones", "on", "over", "found 1.0", "found 1 -1000000000000", "none 1", "founds 1", "found 1_0"]
def ODD : List Str := (["", "on ", " on", "On", "off", "over 1", "overs", "dead", "dead ", "dead -1", "dead 01", "dead 1,2", "dead 1 ", "dead  1", "dead x", "met", "met ", "met 1,", "met ,1", "met 1,,2", "met 1, 2", "met -1", "met 01"] : List Str) ++ (["met 1 2,", "met 1  2", "met 1000000000000", "dead 1000000000000", "found 1", "none", "place row 1", "dead 00", "met 1,00", "on 1", "met 1 ", "deads 1", "met 1,-2", "dead 1 +2", "dead 1_0", "met 1_0", "met 1,2_0", "dead 1 01", "dead 1 1000000000000", "met x", "met 1,x", "met 1 2 01", "met 1,1000000000000"] : List Str)
def FIRST (n : Str) : List Str := ["text", "text ", "text 0", "text 0" ++ n, "text  " ++ n, "texts " ++ n, "text " ++ n ++ " ", "text -" ++ n, "text x", " text " ++ n, "Text " ++ n, "text +" ++ n, "", "place " ++ n, "text 1000000000000", "text" ++ n, "text " ++ n ++ " 1", "text 1_0"]
theorem bad_subj : ∀ j, j < SUBJ.length → badB sbN (SUBJ.getD j "") = true := by decide +kernel
theorem bad_verd : ∀ j, j < VERD.length → badB fV (VERD.getD j "") = true := by decide +kernel
theorem bad_odd : ∀ j, j < ODD.length → badB fT (ODD.getD j "") = true := by decide +kernel
theorem bad_first : ∀ n, n < 21 → 0 < n → ∀ j, j < (FIRST (numS n)).length → badB fF ((FIRST (numS n)).getD j "") = true := by decide +kernel
section
variable {P : Program} {w : World} {K : PySem.W.Frag} {mg : Str → Option Value} {base : Heap}
def spPick (f : Str → Bool) : Sp := fun vs H Q _ => ∃ c : Int, vs = [.int c] ∧ ∀ z H', Same H H' → BadRow f z → Q (.str z) H'
theorem pick {f : Str → Bool} {L : List Str} {n : Nat} (hn : L.length = n) (h0 : 0 < n) (key : ∀ j, j < L.length → badB f (L.getD j "") = true) (c : Int) : ∃ z, atI (L.map V.str) (c % (n : Int)) = some (.str z) ∧ BadRow f z := by
  have r0 : 0 ≤ c % (n : Int) := Int.emod_nonneg _ (by omega)
  have r1 : c % (n : Int) < n := Int.emod_lt_of_pos _ (by omega)
  obtain ⟨z, g, hz⟩ := bad_at key (j := (c % (n : Int)).toNat) (by omega)
  exact ⟨z, atI_of (j := (c % (n : Int)).toNat) (by omega) g, hz⟩
theorem k_law_subject (T : Tx K mg) : C8.Cal P w K mg base 1 "_law_subject" (spPick sbN) [] := by
  refine cal_of (N := n_law_subject) T.d_law_subject sc_law_subject (fun _ _ F => F.bindsN fun _ _ _ _ _ _ us hl => match us, hl with | [_], _ => rfl) (fun vs H Q E h => ?_) (fun f cdv A outer s H vs Q E hr h => ?_)
  · obtain ⟨_, rfl, _⟩ := h
    rfl
  · obtain ⟨c, rfl, q⟩ := h
    refine ⟨_, (pss_cons (ps_asg (pe_lst (pa_cons pe_str (pa_cons pe_str (pa_cons pe_str (pa_cons pe_str (pa_cons pe_str (pa_cons pe_str (pa_cons pe_str (pa_cons pe_str (pa_cons pe_str (pa_cons pe_str pa_nil))))))))))) (pg_name (i := 1) sc_law_subject.nd rfl (Or.inl rfl))) (pss_cons (ps_asg (pe_op op_add3 (pv 1) (pe_lst (pa_cons pe_str (pa_cons pe_str (pa_cons pe_str (pa_cons pe_str (pa_cons pe_str (pa_cons pe_str (pa_cons pe_str (pa_cons pe_str pa_nil)))))))))) (pg_name (i := 1) sc_law_subject.nd rfl (Or.inl rfl))) (pss_one (ps_ret (pe_ix (ix_seq : IxR _ (rIx K)) (pv 1) (pe_op op_mod (pe_callTy call_int2 (by rfl) T.z_int (by decide +kernel) (pa_cons (pv 0) pa_nil)) (pe_callB (call_len2 : CallR _ _ (rLn K)) (by rfl) T.z_len (by decide +kernel) (pa_cons (pv 1) pa_nil))) (fun _ _ => rfl)))))), ?_⟩
    walk_at "xx"
    rename_i p1 H1 n1 s1 e1 p2 H2 n2 s2 e2
    refine o_addL (s2 _ _ e1) e2 (by rw [sizeLine_eq]; simp only [List.length_cons, List.length_nil]; omega) fun p3 H3 n3 s3 e3 => ?_
    have e3 : H3 p3 = some (.lst (SUBJ.map V.str)) := e3
    walk_at "xx"
    refine b_lenL (lst_of e3) ?_
    rw [List.length_map]
    walk_at "xx"
    refine o_mod (by decide +kernel) ?_
    obtain ⟨z, g, hz⟩ := pick (L := SUBJ) rfl (by decide) bad_subj c
    refine o_ixL (lst_of e3) g ?_
    walk_at "xx"
    exact q z H3 (s1.trans (s2.trans s3)) hz
theorem k_law_verdict (T : Tx K mg) : C8.Cal P w K mg base 1 "_law_verdict" (spPick fV) [] := by
  refine cal_of (N := n_law_verdict) T.d_law_verdict sc_law_verdict (fun _ _ F => F.bindsN fun _ _ _ _ _ _ us hl => match us, hl with | [_], _ => rfl) (fun vs H Q E h => ?_) (fun f cdv A outer s H vs Q E hr h => ?_)
  · obtain ⟨_, rfl, _⟩ := h
    rfl
  · obtain ⟨c, rfl, q⟩ := h
    refine ⟨_, (pss_cons (ps_asg (pe_lst (pa_cons pe_str (pa_cons pe_str (pa_cons pe_str (pa_cons pe_str (pa_cons pe_str (pa_cons pe_str (pa_cons pe_str (pa_cons pe_str (pa_cons pe_str (pa_cons pe_str (pa_cons pe_str pa_nil)))))))))))) (pg_name (i := 1) sc_law_verdict.nd rfl (Or.inl rfl))) (pss_cons (ps_asg (pe_op op_add3 (pv 1) (pe_lst (pa_cons pe_str (pa_cons pe_str (pa_cons pe_str (pa_cons pe_str (pa_cons pe_str (pa_cons pe_str (pa_cons pe_str pa_nil))))))))) (pg_name (i := 1) sc_law_verdict.nd rfl (Or.inl rfl))) (pss_cons (ps_asg (pe_op op_add3 (pv 1) (pe_lst (pa_cons pe_str (pa_cons pe_str (pa_cons pe_str (pa_cons pe_str (pa_cons pe_str (pa_cons pe_str (pa_cons pe_str (pa_cons pe_str pa_nil)))))))))) (pg_name (i := 1) sc_law_verdict.nd rfl (Or.inl rfl))) (pss_one (ps_ret (pe_ix (ix_seq : IxR _ (rIx K)) (pv 1) (pe_op op_mod (pe_callTy call_int2 (by rfl) T.z_int (by decide +kernel) (pa_cons (pv 0) pa_nil)) (pe_callB (call_len2 : CallR _ _ (rLn K)) (by rfl) T.z_len (by decide +kernel) (pa_cons (pv 1) pa_nil))) (fun _ _ => rfl))))))), ?_⟩
    walk_at "xx"
    rename_i p1 H1 n1 s1 e1 p2 H2 n2 s2 e2
    refine o_addL (s2 _ _ e1) e2 (by rw [sizeLine_eq]; simp only [List.length_cons, List.length_nil]; omega) fun p3 H3 n3 s3 e3 => ?_
    walk_at "xx"
    rename_i p4 H4 n4 s4 e4
    refine o_addL (s4 _ _ e3) e4 (by rw [sizeLine_eq]; simp only [List.length_append, List.length_cons, List.length_nil]; omega) fun p5 H5 n5 s5 e5 => ?_
    have e5 : H5 p5 = some (.lst (VERD.map V.str)) := e5
    walk_at "xx"
    refine b_lenL (lst_of e5) ?_
    rw [List.length_map]
    walk_at "xx"
    refine o_mod (by decide +kernel) ?_
    obtain ⟨z, g, hz⟩ := pick (L := VERD) rfl (by decide) bad_verd c
    refine o_ixL (lst_of e5) g ?_
    walk_at "xx"
    exact q z H5 (s1.trans (s2.trans (s3.trans (s4.trans s5)))) hz
theorem k_law_odd (T : Tx K mg) : C8.Cal P w K mg base 1 "_law_odd" (spPick fT) [] := by
  refine cal_of (N := n_law_odd) T.d_law_odd sc_law_odd (fun _ _ F => F.bindsN fun _ _ _ _ _ _ us hl => match us, hl with | [_], _ => rfl) (fun vs H Q E h => ?_) (fun f cdv A outer s H vs Q E hr h => ?_)
  · obtain ⟨_, rfl, _⟩ := h
    rfl
  · obtain ⟨c, rfl, q⟩ := h
    refine ⟨_, (pss_cons (ps_asg (pe_lst (pa_cons pe_str (pa_cons pe_str (pa_cons pe_str (pa_cons pe_str (pa_cons pe_str (pa_cons pe_str (pa_cons pe_str (pa_cons pe_str (pa_cons pe_str (pa_cons pe_str (pa_cons pe_str (pa_cons pe_str pa_nil))))))))))))) (pg_name (i := 1) sc_law_odd.nd rfl (Or.inl rfl))) (pss_cons (ps_asg (pe_op op_add3 (pv 1) (pe_lst (pa_cons pe_str (pa_cons pe_str (pa_cons pe_str (pa_cons pe_str (pa_cons pe_str (pa_cons pe_str (pa_cons pe_str (pa_cons pe_str (pa_cons pe_str (pa_cons pe_str pa_nil)))))))))))) (pg_name (i := 1) sc_law_odd.nd rfl (Or.inl rfl))) (pss_cons (ps_asg (pe_op op_add3 (pv 1) (pe_lst (pa_cons pe_str (pa_cons pe_str (pa_cons pe_str (pa_cons pe_str (pa_cons pe_str (pa_cons pe_str (pa_cons pe_str pa_nil))))))))) (pg_name (i := 1) sc_law_odd.nd rfl (Or.inl rfl))) (pss_cons (ps_asg (pe_op op_add3 (pv 1) (pe_lst (pa_cons pe_str (pa_cons pe_str (pa_cons pe_str (pa_cons pe_str (pa_cons pe_str (pa_cons pe_str (pa_cons pe_str (pa_cons pe_str pa_nil)))))))))) (pg_name (i := 1) sc_law_odd.nd rfl (Or.inl rfl))) (pss_cons (ps_asg (pe_op op_add3 (pv 1) (pe_lst (pa_cons pe_str (pa_cons pe_str (pa_cons pe_str (pa_cons pe_str (pa_cons pe_str (pa_cons pe_str (pa_cons pe_str pa_nil))))))))) (pg_name (i := 1) sc_law_odd.nd rfl (Or.inl rfl))) (pss_cons (ps_asg (pe_op op_add3 (pv 1) (pe_lst (pa_cons pe_str (pa_cons pe_str pa_nil)))) (pg_name (i := 1) sc_law_odd.nd rfl (Or.inl rfl))) (pss_one (ps_ret (pe_ix (ix_seq : IxR _ (rIx K)) (pv 1) (pe_op op_mod (pe_callTy call_int2 (by rfl) T.z_int (by decide +kernel) (pa_cons (pv 0) pa_nil)) (pe_callB (call_len2 : CallR _ _ (rLn K)) (by rfl) T.z_len (by decide +kernel) (pa_cons (pv 1) pa_nil))) (fun _ _ => rfl)))))))))), ?_⟩
    walk_at "xx"
    rename_i p1 H1 n1 s1 e1 p2 H2 n2 s2 e2
    refine o_addL (s2 _ _ e1) e2 (by rw [sizeLine_eq]; simp only [List.length_cons, List.length_nil]; omega) fun p3 H3 n3 s3 e3 => ?_
    walk_at "xx"
    rename_i p4 H4 n4 s4 e4
    refine o_addL (s4 _ _ e3) e4 (by rw [sizeLine_eq]; simp only [List.length_append, List.length_cons, List.length_nil]; omega) fun p5 H5 n5 s5 e5 => ?_
    walk_at "xx"
    rename_i p6 H6 n6 s6 e6
    refine o_addL (s6 _ _ e5) e6 (by rw [sizeLine_eq]; simp only [List.length_append, List.length_cons, List.length_nil]; omega) fun p7 H7 n7 s7 e7 => ?_
    walk_at "xx"
    rename_i p8 H8 n8 s8 e8
    refine o_addL (s8 _ _ e7) e8 (by rw [sizeLine_eq]; simp only [List.length_append, List.length_cons, List.length_nil]; omega) fun p9 H9 n9 s9 e9 => ?_
    walk_at "xx"
    rename_i pa Ha na sa ea
    refine o_addL (sa _ _ e9) ea (by rw [sizeLine_eq]; simp only [List.length_append, List.length_cons, List.length_nil]; omega) fun pb Hb nb sb eb => ?_
    have eb : Hb pb = some (.lst (ODD.map V.str)) := eb
    walk_at "xx"
    refine b_lenL (lst_of eb) ?_
    rw [List.length_map]
    walk_at "xx"
    refine o_mod (by decide +kernel) ?_
    obtain ⟨z, g, hz⟩ := pick (L := ODD) rfl (by decide) bad_odd c
    refine o_ixL (lst_of eb) g ?_
    walk_at "xx"
    exact q z Hb (s1.trans (s2.trans (s3.trans (s4.trans (s5.trans (s6.trans (s7.trans (s8.trans (s9.trans (sa.trans sb)))))))))) hz
def spFirst : Sp := fun vs H Q _ => ∃ (n : Nat) (c : Int), vs = [.int n, .int c] ∧ 0 < n ∧ n < 21 ∧ ∀ z H', Same H H' → BadRow fF z → Q (.str z) H'
theorem k_law_first (T : Tx K mg) : C8.Cal P w K mg base 1 "_law_first" spFirst [] := by
  refine cal_of (N := n_law_first) T.d_law_first sc_law_first (fun _ _ F => F.bindsN fun _ _ _ _ _ _ us hl => match us, hl with | [_, _], _ => rfl) (fun vs H Q E h => ?_) (fun f cdv A outer s H vs Q E hr h => ?_)
  · obtain ⟨_, _, rfl, _⟩ := h
    rfl
  · obtain ⟨n, c, rfl, hn0, hn1, q⟩ := h
    have ln : (intS (n : Int)).length ≤ 13 := int_len (by omega)
    have lit : ∀ z : Str, z.length ≤ 50 → z.length ≤ 50 := fun _ h => h
    have big : ∀ k : Nat, k ≤ 100 → k ≤ sizeLine := fun k h => by rw [sizeLine_eq]; omega
    have add : ∀ z : Str, z.length ≤ 10 → z.length + (intS (n : Int)).length ≤ sizeLine := fun z hz => big _ (by omega)
    have add2 : ∀ z y : Str, z.length ≤ 10 → y.length ≤ 10 → (z ++ intS (n : Int)).length + y.length ≤ sizeLine := fun z y hz hy => big _ (by rw [app_len]; omega)
    refine ⟨_, (pss_cons (ps_asg (pe_callTy (WXD.call_strA : CallR _ _ WXD.rStrA) (by rfl) T.z_str (by decide +kernel) (pa_cons (pv 0) pa_nil)) (pg_name (i := 2) sc_law_first.nd rfl (Or.inl rfl))) (pss_cons (ps_asg (pe_lst (pa_cons pe_str (pa_cons pe_str (pa_cons pe_str (pa_cons (pe_op op_add3 pe_str (pv 2)) (pa_cons (pe_op op_add3 pe_str (pv 2)) (pa_cons (pe_op op_add3 pe_str (pv 2)) (pa_cons (pe_op op_add3 (pe_op op_add3 pe_str (pv 2)) pe_str) pa_nil)))))))) (pg_name (i := 3) sc_law_first.nd rfl (Or.inl rfl))) (pss_cons (ps_asg (pe_op op_add3 (pv 3) (pe_lst (pa_cons (pe_op op_add3 pe_str (pv 2)) (pa_cons pe_str (pa_cons (pe_op op_add3 pe_str (pv 2)) (pa_cons (pe_op op_add3 pe_str (pv 2)) (pa_cons (pe_op op_add3 pe_str (pv 2)) (pa_cons pe_str pa_nil)))))))) (pg_name (i := 3) sc_law_first.nd rfl (Or.inl rfl))) (pss_cons (ps_asg (pe_op op_add3 (pv 3) (pe_lst (pa_cons (pe_op op_add3 pe_str (pv 2)) (pa_cons pe_str (pa_cons (pe_op op_add3 pe_str (pv 2)) (pa_cons (pe_op op_add3 (pe_op op_add3 pe_str (pv 2)) pe_str) (pa_cons pe_str pa_nil))))))) (pg_name (i := 3) sc_law_first.nd rfl (Or.inl rfl))) (pss_one (ps_ret (pe_ix (ix_seq : IxR _ (rIx K)) (pv 3) (pe_op op_mod (pe_callTy call_int2 (by rfl) T.z_int (by decide +kernel) (pa_cons (pv 1) pa_nil)) (pe_callB (call_len2 : CallR _ _ (rLn K)) (by rfl) T.z_len (by decide +kernel) (pa_cons (pv 3) pa_nil))) (fun _ _ => rfl)))))))), ?_⟩
    walk_at "xx"
    refine c_strI (by omega) ?_
    walk_at "xx"
    refine o_addS (by first | exact add _ (by decide +kernel) | exact add2 _ _ (by decide +kernel) (by decide +kernel)) ?_
    walk_at "xx"
    refine o_addS (by first | exact add _ (by decide +kernel) | exact add2 _ _ (by decide +kernel) (by decide +kernel)) ?_
    walk_at "xx"
    refine o_addS (by first | exact add _ (by decide +kernel) | exact add2 _ _ (by decide +kernel) (by decide +kernel)) ?_
    walk_at "xx"
    refine o_addS (by first | exact add _ (by decide +kernel) | exact add2 _ _ (by decide +kernel) (by decide +kernel)) ?_
    walk_at "xx"
    refine o_addS (by first | exact add _ (by decide +kernel) | exact add2 _ _ (by decide +kernel) (by decide +kernel)) ?_
    walk_at "xx"
    rename_i p1 H1 n1 s1 e1
    refine o_addS (by first | exact add _ (by decide +kernel) | exact add2 _ _ (by decide +kernel) (by decide +kernel)) ?_
    walk_at "xx"
    refine o_addS (by first | exact add _ (by decide +kernel) | exact add2 _ _ (by decide +kernel) (by decide +kernel)) ?_
    walk_at "xx"
    refine o_addS (by first | exact add _ (by decide +kernel) | exact add2 _ _ (by decide +kernel) (by decide +kernel)) ?_
    walk_at "xx"
    refine o_addS (by first | exact add _ (by decide +kernel) | exact add2 _ _ (by decide +kernel) (by decide +kernel)) ?_
    walk_at "xx"
    rename_i p2 H2 n2 s2 e2
    refine o_addL (s2 _ _ e1) e2 (by rw [sizeLine_eq]; simp only [List.length_append, List.length_cons, List.length_nil]; omega) fun p3 H3 n3 s3 e3 => ?_
    walk_at "xx"
    refine o_addS (by first | exact add _ (by decide +kernel) | exact add2 _ _ (by decide +kernel) (by decide +kernel)) ?_
    walk_at "xx"
    refine o_addS (by first | exact add _ (by decide +kernel) | exact add2 _ _ (by decide +kernel) (by decide +kernel)) ?_
    walk_at "xx"
    refine o_addS (by first | exact add _ (by decide +kernel) | exact add2 _ _ (by decide +kernel) (by decide +kernel)) ?_
    walk_at "xx"
    refine o_addS (by first | exact add _ (by decide +kernel) | exact add2 _ _ (by decide +kernel) (by decide +kernel)) ?_
    walk_at "xx"
    rename_i p4 H4 n4 s4 e4
    refine o_addL (s4 _ _ e3) e4 (by rw [sizeLine_eq]; simp only [List.length_append, List.length_cons, List.length_nil]; omega) fun p5 H5 n5 s5 e5 => ?_
    have e5 : H5 p5 = some (.lst ((FIRST (intS n)).map V.str)) := e5
    rw [int_nat (by omega), Int.toNat_natCast] at e5
    walk_at "xx"
    refine b_lenL (lst_of e5) ?_
    rw [List.length_map]
    walk_at "xx"
    refine o_mod (show (0 : Int) < ((18 : Nat) : Int) by decide) ?_
    obtain ⟨z, g, hz⟩ := pick (L := FIRST (numS n)) (n := 18) rfl (by decide) (bad_first n hn1 hn0) c
    refine o_ixL (lst_of e5) g ?_
    walk_at "xx"
    exact q z H5 (s1.trans (s2.trans (s3.trans (s4.trans s5)))) hz
end
end K30
-- WIDE
-- CUTIF _law_spoilt := kind == 7 and lines[subject][:6] == 'apart '
namespace K30
open PySem PySem.Spec PyProof.Rows L2 Wy WN WQ WS WC WE WO WM W3 W4 WR WXD W30

def nz : List Str → List Str
  | [] => [("" : Str)]
  | l :: r => l :: r
/-- the rows of a spoilt paper, and the row that tells -/
structure SpOk (p : Pp) (d0 : Int) (rs : List Str) (row : Nat) : Prop where
  each : ∀ l ∈ rs, 10 ∉ tl l ∧ Row l
  len : rs.length ≤ 400
  err : readO (nz rs) = .error row
  pre : d0 ≠ 2 → d0 ≠ 7 → rs.length = p.lines.length → ∃ pre z X, rs = pre ++ z :: X ∧ row = pre.length + 1 ∧ Fail pre z
theorem set_mid {α : Type} (pre X : List α) (l z : α) : (pre ++ l :: X).set pre.length z = pre ++ z :: X := by
  induction pre with
  | nil => rfl
  | cons a r ih =>
    show a :: (r ++ l :: X).set r.length z = _
    rw [ih]
    rfl
theorem nz_mid (pre X : List Str) (z : Str) : nz (pre ++ z :: X) = pre ++ z :: X := by
  cases pre <;> rfl
theorem mid_each {p : Pp} (h : p.ok) {pre X : List Str} {l z : Str} (e : p.lines = pre ++ l :: X) (no : 10 ∉ tl z) (row : Row z) : (∀ x ∈ pre ++ z :: X, 10 ∉ tl x ∧ Row x) ∧ (pre ++ z :: X).length ≤ 400 := by
  refine ⟨fun x hx => ?_, ?_⟩
  · rcases List.mem_append.mp hx with hx | hx
    · exact Pp.row h x (by rw [e]; exact List.mem_append_left _ hx)
    · rcases List.mem_cons.mp hx with rfl | hx
      · exact ⟨no, row⟩
      · exact Pp.row h x (by rw [e]; exact List.mem_append_right _ (List.mem_cons_of_mem _ hx))
  · have := Pp.count h
    rw [e, List.length_append, List.length_cons] at this
    rw [List.length_append, List.length_cons]
    omega
theorem sp_fail {p : Pp} (h : p.ok) {d0 : Int} {pre X : List Str} {l z : Str} (e : p.lines = pre ++ l :: X) (no : 10 ∉ tl z) (row : Row z) (f : Fail pre z) : SpOk p d0 (p.lines.set pre.length z) (pre.length + 1) := by
  rw [e, set_mid]
  obtain ⟨h1, h2⟩ := mid_each h e no row
  exact ⟨h1, h2, by rw [nz_mid]; exact f X, fun _ _ _ => ⟨pre, z, X, rfl, rfl, f⟩⟩
theorem sp_err {p : Pp} (h : p.ok) {d0 : Int} (hd : d0 = 2 ∨ d0 = 7) {pre X : List Str} {l z : Str} {row : Nat} (e : p.lines = pre ++ l :: X) (no : 10 ∉ tl z) (hz : Row z) (f : readO (pre ++ z :: X) = .error row) : SpOk p d0 (p.lines.set pre.length z) row := by
  rw [e, set_mid]
  obtain ⟨h1, h2⟩ := mid_each h e no hz
  exact ⟨h1, h2, by rw [nz_mid]; exact f, fun a b _ => absurd hd (by omega)⟩
theorem dec_sub (p : Pp) : ∃ l X, p.lines = (szL "text" p.rows.length :: p.rows) ++ l :: X ∧ X.length + (1 + p.rows.length + 1) = p.lines.length := by
  have hl := lines_len p
  cases hs : p.sb with
  | place t =>
    refine ⟨PL ++ t, p.vd.l :: p.ts.map Tk.l, by rw [lines_eq, hs]; rfl, ?_⟩
    rw [hl, hs, List.length_cons, List.length_map]
    show _ = _ + (1 + _)
    omega
  | apart ls =>
    refine ⟨szL "apart" ls.length, ls ++ (p.vd.l :: p.ts.map Tk.l), by rw [lines_eq, hs]; rfl, ?_⟩
    rw [hl, hs, List.length_append, List.length_cons, List.length_map]
    show _ = _ + (ls.length + 1 + _)
    omega
theorem dec_verd (p : Pp) : p.lines = (szL "text" p.rows.length :: p.rows ++ p.sb.ls) ++ p.vd.l :: p.ts.map Tk.l := by
  rw [lines_eq, List.append_assoc]
theorem dec_tok (p : Pp) {i : Nat} (hi : i < p.ts.length) : p.lines = (szL "text" p.rows.length :: p.rows ++ (p.sb.ls ++ (p.vd.l :: (p.ts.take i).map Tk.l))) ++ p.ts[i].l :: (p.ts.drop (i + 1)).map Tk.l := by
  have e : p.ts.map Tk.l = (p.ts.take i).map Tk.l ++ p.ts[i].l :: (p.ts.drop (i + 1)).map Tk.l := by
    conv => lhs; rw [← List.take_append_drop i p.ts, List.drop_eq_getElem_cons hi]
    rw [List.map_append]
    rfl
  rw [lines_eq, e]
  simp only [List.append_assoc, List.cons_append]
theorem szS {z y : Str} {k : Nat} (h : szL z k = y ++ numS k) : y ++ intS (k : Int) = szL z k := by
  rw [h, int_nat (by omega), Int.toNat_natCast]
theorem three (a b c d : Int) : ∃ v, atI [V.int a, .int b, .int c] (d % 3) = some (.int v) ∧ (v = a ∨ v = b ∨ v = c) := by
  have h : d % 3 = 0 ∨ d % 3 = 1 ∨ d % 3 = 2 := by omega
  rcases h with h | h | h
  · exact ⟨a, by rw [h]; rfl, .inl rfl⟩
  · exact ⟨b, by rw [h]; rfl, .inr (.inl rfl)⟩
  · exact ⟨c, by rw [h]; rfl, .inr (.inr rfl)⟩
theorem szL_ok {z : Str} {k : Nat} (lz : z.length ≤ 100) (h : k < 10 ^ 12) (no : 10 ∉ tl z) (a : As z) : 10 ∉ tl (szL z k) ∧ Row (szL z k) := ⟨szL_row no, Nat.le_trans (szL_len lz h) (by decide), as_sz a⟩
theorem cut6 (y t : Str) (h : y.length = 6) : cutS (y ++ t) none (some 6) = y := by
  refine str_ext ?_
  unfold cutS
  have e : HT.sIx (y ++ t).length (y ++ t).length (some 6) = 6 := by
    rw [show (6 : Int) = ((6 : Nat) : Int) from rfl, HT.sIx_nat, app_len]
    omega
  rw [e, HT.sIx_none]
  show (((tl (y ++ t)).drop 0).take (6 - 0)) = tl y
  have hy : (tl y).length = 6 := by rw [← h]; exact (str_len y).symm
  rw [tl_app, List.drop_zero, List.take_append_of_le_length (by omega), List.take_of_length_le (by omega)]
section
variable {P : Program} {w : World} {K : PySem.W.Frag} {mg : Str → Option Value} {base : Heap}
def spSpoilt (K : PySem.W.Frag) : Sp := fun vs H Q _ => ∃ (a d : Addr) (p : Pp) (d0 d1 d2 d3 d4 d5 : Int), vs = [.ref a, .int ((1 + p.rows.length : Nat) : Int), .int ((1 + p.rows.length + p.sb.ls.length : Nat) : Int), .ref d] ∧ p.ok ∧ H a = some (.lst (p.lines.map V.str)) ∧ H d = some (.lst [.int d0, .int d1, .int d2, .int d3, .int d4, .int d5]) ∧
  ∀ t rp H' rs row, Same H H' → H rp = none → H' t = some (.tup [.ref rp, .int ((row : Nat) : Int)]) → H' rp = some (.lst (rs.map V.str)) → SpOk p d0 rs row → Q (.ref t) H'
theorem k_law_spoilt (T : Tx K mg) : C8.Cal P w K mg base 2 "_law_spoilt" (spSpoilt K) [] := by
  refine cal_of (N := n_law_spoilt) T.d_law_spoilt sc_law_spoilt (fun _ _ F => F.bindsN fun _ _ _ _ _ _ us hl => match us, hl with | [_, _, _, _], _ => rfl) (fun vs H Q E h => ?_) (fun f cdv A outer s H vs Q E hr h => ?_)
  · obtain ⟨_, _, _, _, _, _, _, _, _, rfl, _⟩ := h
    rfl
  · obtain ⟨a, d, p, d0, d1, d2, d3, d4, d5, rfl, hp, ea, ed, q⟩ := h
    have hc := Pp.count hp
    have hll := lines_len p
    have hR := hp.r.2.1
    have hR0 : 0 < p.rows.length := List.length_pos_iff.mpr hp.r.1
    have eR : (((1 + p.rows.length : Nat) : Int) - 1) = (p.rows.length : Int) := by omega
    have h0 : 0 < (p.lines.map V.str).length := by rw [List.length_map]; omega
    have hT0 : 0 < p.ts.length := List.length_pos_iff.mpr hp.t.1
    refine ⟨_, (pss_cons (ps_asg (pe_callTy (call_lst : CallR _ _ (rLst K)) (by rfl) T.z_list (by decide +kernel) (pa_cons (pv 0) pa_nil)) (pg_name (i := 4) sc_law_spoilt.nd rfl (Or.inl rfl))) (pss_cons (ps_asg (pe_ix (ix_seq : IxR _ (rIx K)) (pv 3) pe_int (fun _ _ => rfl)) (pg_name (i := 5) sc_law_spoilt.nd rfl (Or.inl rfl))) (pss_cons (ps_if (pt_cmpR (op_eq2 hr.units : OpR _ _ (rEq2 K)) (pv 5) pe_int (nomark _)) (pss_cons (ps_asg (C8.pe_c (k_law_first T) hr (by first | decide | omega) (by rfl) (pa_cons (pe_op op_sub (pv 1) pe_int) (pa_cons (pe_ix (ix_seq : IxR _ (rIx K)) (pv 3) pe_int (fun _ _ => rfl)) pa_nil))) (pg_sub (pv 4) pe_int set_list)) (pss_one (ps_ret (pe_tup (pa_cons (pv 4) (pa_cons pe_int pa_nil)))))) pss_nil) (pss_cons (ps_if (pt_cmpR (op_eq2 hr.units : OpR _ _ (rEq2 K)) (pv 5) pe_int (nomark _)) (pss_cons (ps_asg (pe_op op_add3 pe_str (pe_callTy (WXD.call_strA : CallR _ _ WXD.rStrA) (by rfl) T.z_str (by decide +kernel) (pa_cons (pe_ix (ix_seq : IxR _ (rIx K)) (pe_lst (pa_cons (pe_op op_sub (pe_callB (call_len2 : CallR _ _ (rLn K)) (by rfl) T.z_len (by decide +kernel) (pa_cons (pv 0) pa_nil)) pe_int) (pa_cons (pe_callB (call_len2 : CallR _ _ (rLn K)) (by rfl) T.z_len (by decide +kernel) (pa_cons (pv 0) pa_nil)) (pa_cons pe_int pa_nil)))) (pe_op op_mod (pe_callTy call_int2 (by rfl) T.z_int (by decide +kernel) (pa_cons (pe_ix (ix_seq : IxR _ (rIx K)) (pv 3) pe_int (fun _ _ => rfl)) pa_nil)) pe_int) (fun _ _ => rfl)) pa_nil))) (pg_sub (pv 4) pe_int set_list)) (pss_one (ps_ret (pe_tup (pa_cons (pv 4) (pa_cons (pe_op op_add3 (pe_callB (call_len2 : CallR _ _ (rLn K)) (by rfl) T.z_len (by decide +kernel) (pa_cons (pv 0) pa_nil)) pe_int) pa_nil)))))) pss_nil) (pss_cons (ps_if (pt_cmpR (op_eq2 hr.units : OpR _ _ (rEq2 K)) (pv 5) pe_int (nomark _)) (pss_cons (ps_asg (C8.pe_c (k_law_subject T) hr (by first | decide | omega) (by rfl) (pa_cons (pe_ix (ix_seq : IxR _ (rIx K)) (pv 3) pe_int (fun _ _ => rfl)) pa_nil)) (pg_sub (pv 4) (pv 1) set_list)) (pss_one (ps_ret (pe_tup (pa_cons (pv 4) (pa_cons (pe_op op_add3 (pv 1) pe_int) pa_nil)))))) pss_nil) (pss_cons (ps_if (pt_cmpR (op_eq2 hr.units : OpR _ _ (rEq2 K)) (pv 5) pe_int (nomark _)) (pss_cons (ps_asg (C8.pe_c (k_law_verdict T) hr (by first | decide | omega) (by rfl) (pa_cons (pe_ix (ix_seq : IxR _ (rIx K)) (pv 3) pe_int (fun _ _ => rfl)) pa_nil)) (pg_sub (pv 4) (pv 2) set_list)) (pss_one (ps_ret (pe_tup (pa_cons (pv 4) (pa_cons (pe_op op_add3 (pv 2) pe_int) pa_nil)))))) pss_nil) (pss_cons (ps_if (pt_cmpR (op_eq2 hr.units : OpR _ _ (rEq2 K)) (pv 5) pe_int (nomark _)) (pss_cons (ps_asg (pe_op op_mod (pe_callTy call_int2 (by rfl) T.z_int (by decide +kernel) (pa_cons (pe_ix (ix_seq : IxR _ (rIx K)) (pv 3) pe_int (fun _ _ => rfl)) pa_nil)) (pe_op op_add3 (pv 2) pe_int)) (pg_name (i := 6) sc_law_spoilt.nd rfl (Or.inl rfl))) (pss_one (ps_ret (pe_tup (pa_cons (pe_slice (sl_2 : SlR _ (rSl2 K)) (pv 4) po_none (po_some (pv 6))) (pa_cons (pe_callC cc_max (by rfl) T.z_max (by decide +kernel) (pa_cons pe_int (pa_cons (pe_op op_add3 (pv 6) (pe_callTy call_int2 (by rfl) T.z_int (by decide +kernel) (pa_cons (pe_cmpR op_gt (pv 6) pe_int (nomark _)) pa_nil))) pa_nil))) pa_nil)))))) pss_nil) (pss_cons (ps_if (pt_cmpR (op_eq2 hr.units : OpR _ _ (rEq2 K)) (pv 5) pe_int (nomark _)) (pss_one (ps_ret (pe_tup (pa_cons (pe_op op_add3 (pv 4) (pe_lst (pa_cons pe_str pa_nil))) (pa_cons (pe_op op_add3 (pe_callB (call_len2 : CallR _ _ (rLn K)) (by rfl) T.z_len (by decide +kernel) (pa_cons (pv 0) pa_nil)) pe_int) pa_nil))))) pss_nil) (C8.pss_cut (ps_if (PW.pt (pw_and (pt_cmpR (op_eq2 hr.units : OpR _ _ (rEq2 K)) (pv 5) pe_int (nomark _)) (pw_and1 (pt_cmpR (op_eq2 hr.units : OpR _ _ (rEq2 K)) (pe_slice (sl_2 : SlR _ (rSl2 K)) (pe_ix (ix_seq : IxR _ (rIx K)) (pv 0) (pv 1) (fun _ _ => rfl)) po_none (po_some pe_int)) pe_str (nomark _))))) (pss_cons (ps_asg (pe_op op_add3 pe_str (pe_callTy (WXD.call_strA : CallR _ _ WXD.rStrA) (by rfl) T.z_str (by decide +kernel) (pa_cons (pe_ix (ix_seq : IxR _ (rIx K)) (pe_lst (pa_cons (pe_op op_sub (pe_op op_sub (pe_callB (call_len2 : CallR _ _ (rLn K)) (by rfl) T.z_len (by decide +kernel) (pa_cons (pv 0) pa_nil)) pe_int) (pv 1)) (pa_cons (pe_callB (call_len2 : CallR _ _ (rLn K)) (by rfl) T.z_len (by decide +kernel) (pa_cons (pv 0) pa_nil)) (pa_cons pe_int pa_nil)))) (pe_op op_mod (pe_callTy call_int2 (by rfl) T.z_int (by decide +kernel) (pa_cons (pe_ix (ix_seq : IxR _ (rIx K)) (pv 3) pe_int (fun _ _ => rfl)) pa_nil)) pe_int) (fun _ _ => rfl)) pa_nil))) (pg_sub (pv 4) (pv 1) set_list)) (pss_one (ps_ret (pe_tup (pa_cons (pv 4) (pa_cons (pe_op op_add3 (pe_callB (call_len2 : CallR _ _ (rLn K)) (by rfl) T.z_len (by decide +kernel) (pa_cons (pv 0) pa_nil)) pe_int) pa_nil)))))) pss_nil) (pss_cons (ps_asg (pe_op op_add3 (pe_op op_add3 (pv 2) pe_int) (pe_op op_mod (pe_callTy call_int2 (by rfl) T.z_int (by decide +kernel) (pa_cons (pe_ix (ix_seq : IxR _ (rIx K)) (pv 3) pe_int (fun _ _ => rfl)) pa_nil)) (pe_op op_sub (pe_op op_sub (pe_callB (call_len2 : CallR _ _ (rLn K)) (by rfl) T.z_len (by decide +kernel) (pa_cons (pv 0) pa_nil)) (pv 2)) pe_int))) (pg_name (i := 7) sc_law_spoilt.nd rfl (Or.inl rfl))) (pss_cons (ps_asg (C8.pe_c (k_law_odd T) hr (by first | decide | omega) (by rfl) (pa_cons (pe_ix (ix_seq : IxR _ (rIx K)) (pv 3) pe_int (fun _ _ => rfl)) pa_nil)) (pg_sub (pv 4) (pv 7) set_list)) (pss_one (ps_ret (pe_tup (pa_cons (pv 4) (pa_cons (pe_op op_add3 (pv 7) pe_int) pa_nil)))))))))))))))), ?_⟩
    walk_at "xx"
    refine ls_new (lst_of ea) fun r H1 n1 s1 e1 => ?_
    have ea1 := s1 _ _ ea
    have ed1 := s1 _ _ ed
    walk_at "xx"
    -- 1
    refine iteI (fun c => ?_) (fun c => ?_)
    · walk_at "xx"
      refine ⟨p.rows.length, d1, by rw [eR]; rfl, hR0, by omega, fun z H2 s2 hz => ?_⟩
      walk_at "xx"
      refine st_L (s2 _ _ e1) (j := 0) (show ixN _ ((0 : Nat) : Int) = some 0 from ixN_nat h0) fun H3 c3 e3 => ?_
      rw [← List.map_set] at e3
      walk_at "xx"
      rename_i t H4 n4 s4 e4
      have S : Same H H4 := fun b o h => s4 _ _ (c3.at (s2 _ _ (s1 _ _ h)) (fun z => by rw [z, n1] at h; cases h))
      exact q t r H4 _ 1 S n1 e4 (s4 _ _ e3) (sp_fail hp (pre := []) (lines_eq p) hz.no hz.row (fail_first (Option.isNone_iff_eq_none.mp hz.bad)))
    walk_at "xx"
    -- 2
    refine iteI (fun c => ?_) (fun c => ?_)
    · walk_at "xx"
      refine b_lenL (lst_of ea1) ?_
      rw [List.length_map]
      walk_at "xx"
      refine b_lenL (lst_of ea1) ?_
      rw [List.length_map]
      walk_at "xx"
      rename_i q2 H2 n2 s2 e2
      obtain ⟨v, g, hv⟩ := three ((p.lines.length : Int) - 1) (p.lines.length : Int) 999999999999 d1
      obtain ⟨k, rfl⟩ : ∃ k : Nat, v = k := ⟨v.toNat, by omega⟩
      have hk1 : p.lines.length ≤ k + 1 := by omega
      have hk2 : k < 10 ^ 12 := by omega
      refine o_ixL (lst_of e2) g ?_
      walk_at "xx"
      refine c_strI (by omega) ?_
      walk_at "xx"
      have lk : (intS (k : Int)).length ≤ 13 := int_len (by omega)
      have l5 : (Str.ofString "text ").length = 5 := by decide +kernel
      refine o_addS (by rw [sizeLine_eq]; show (Str.ofString "text ").length + (intS (k : Int)).length ≤ _; omega) ?_
      walk_at "xx"
      refine st_L (s2 _ _ e1) (j := 0) (show ixN _ ((0 : Nat) : Int) = some 0 from ixN_nat h0) fun H3 c3 e3 => ?_
      have e3 : H3 r = some (.lst ((p.lines.map V.str).set 0 (.str (("text " : Str) ++ intS (k : Int))))) := e3
      rw [← List.map_set, szS (szL_text k)] at e3
      have ea3 := c3.at (s2 _ _ ea1) (fun z => by rw [z, n1] at ea; cases ea)
      walk_at "xx"
      refine b_lenL (lst_of ea3) ?_
      rw [List.length_map]
      walk_at "xx"
      rename_i t H4 n4 s4 e4
      have S : Same H H4 := fun b o h => s4 _ _ (c3.at (s2 _ _ (s1 _ _ h)) (fun z => by rw [z, n1] at h; cases h))
      obtain ⟨z1, z2⟩ := szL_ok (z := "text") (k := k) (by decide +kernel) hk2 (by decide +kernel) (by unfold As; decide +kernel)
      have hl := lines_eq p
      have hX := congrArg List.length hl
      refine q t r H4 _ (p.lines.length + 1) S n1 e4 (s4 _ _ e3) (sp_err hp (.inl c) (pre := []) hl z1 z2 ?_)
      show readO (szL "text" k :: (p.rows ++ (p.sb.ls ++ (p.vd.l :: p.ts.map Tk.l)))) = _
      rw [read_wide1 (szO_szL (by decide +kernel) (by omega) hk2) _ (by simp only [List.length_append, List.length_cons, List.length_map] at hX ⊢; omega)]
      congr 1
    walk_at "xx"
    -- 3
    refine iteI (fun c => ?_) (fun c => ?_)
    · walk_at "xx"
      refine ⟨d1, rfl, fun z H2 s2 hz => ?_⟩
      walk_at "xx"
      refine st_L (s2 _ _ e1) (j := 1 + p.rows.length) (ixN_nat (by rw [List.length_map]; omega)) fun H3 c3 e3 => ?_
      rw [← List.map_set] at e3
      walk_at "xx"
      rename_i t H4 n4 s4 e4
      have S : Same H H4 := fun b o h => s4 _ _ (c3.at (s2 _ _ (s1 _ _ h)) (fun z => by rw [z, n1] at h; cases h))
      obtain ⟨l, X, e, _⟩ := dec_sub p
      have k := sp_fail hp (d0 := d0) e hz.no hz.row (fail_sub hp hz.bad)
      have el : (szL "text" p.rows.length :: p.rows).length = 1 + p.rows.length := by rw [List.length_cons]; omega
      rw [el] at k
      exact q t r H4 _ (1 + p.rows.length + 1) S n1 e4 (s4 _ _ e3) k
    walk_at "xx"
    -- 4
    refine iteI (fun c => ?_) (fun c => ?_)
    · walk_at "xx"
      refine ⟨d1, rfl, fun z H2 s2 hz => ?_⟩
      walk_at "xx"
      refine st_L (s2 _ _ e1) (j := 1 + p.rows.length + p.sb.ls.length) (ixN_nat (by rw [List.length_map]; omega)) fun H3 c3 e3 => ?_
      rw [← List.map_set] at e3
      walk_at "xx"
      rename_i t H4 n4 s4 e4
      have S : Same H H4 := fun b o h => s4 _ _ (c3.at (s2 _ _ (s1 _ _ h)) (fun z => by rw [z, n1] at h; cases h))
      have k := sp_fail hp (d0 := d0) (dec_verd p) hz.no hz.row (fail_verd hp hz.bad)
      have el : (szL "text" p.rows.length :: p.rows ++ p.sb.ls).length = 1 + p.rows.length + p.sb.ls.length := by rw [List.length_append, List.length_cons]; omega
      rw [el] at k
      exact q t r H4 _ (1 + p.rows.length + p.sb.ls.length + 1) S n1 e4 (s4 _ _ e3) k
    walk_at "xx"
    -- 5
    refine iteI (fun c => ?_) (fun c => ?_)
    · walk_at "xx"
      rename_i q2 H2 n2 s2 e2 t H3 n3 s3 e3
      have hV : (((1 + p.rows.length + p.sb.ls.length : Nat) : Int)) + 2 = ((1 + p.rows.length + p.sb.ls.length + 2 : Nat) : Int) := by omega
      rw [hV] at e2 e3
      generalize hv : 1 + p.rows.length + p.sb.ls.length = v at *
      obtain ⟨m, hm⟩ : ∃ m : Nat, d1 % ((v + 2 : Nat) : Int) = m := ⟨(d1 % ((v + 2 : Nat) : Int)).toNat, (Int.toNat_of_nonneg (Int.emod_nonneg _ (by omega))).symm⟩
      have hm2 : m < v + 2 := by
        have := Int.emod_lt_of_pos d1 (show (0 : Int) < ((v + 2 : Nat) : Int) by omega)
        omega
      rw [hm] at e2 e3
      have ec : cutV (p.lines.map V.str) none (some (m : Int)) = (p.lines.take m).map V.str := by
        unfold cutV
        rw [HT.sIx_nat, HT.sIx_none, List.map_take, List.drop_zero, Nat.min_eq_left (by rw [List.length_map]; omega), Nat.sub_zero]
      rw [ec] at e2
      have S : Same H H3 := s1.trans (s2.trans s3)
      have hlt : (p.lines.take m).length = m := by
        rw [List.length_take]
        omega
      have hrow : (max 1 ((m : Int) + if decide ((0 : Int) < m) = true then 1 else 0)) = ((max 1 (m + 1) : Nat) : Int) ∨ m = 0 := by
        by_cases z : m = 0
        · exact .inr z
        · left
          rw [decide_eq_true (by omega), if_pos rfl]
          omega
      have each : ∀ l ∈ p.lines.take m, 10 ∉ tl l ∧ Row l := fun l hl => Pp.row hp l (List.mem_of_mem_take hl)
      rcases hrow with hrow | rfl
      · rw [hrow] at e3
        by_cases z : m = 0
        · subst z
          exact q t q2 H3 _ _ S (s1.free n2) e3 (s3 _ _ e2) ⟨each, by rw [hlt]; omega, by rw [List.take_zero]; exact readO_bad (l := "") (by decide +kernel) [], fun _ _ z => by rw [hlt] at z; omega⟩
        · rw [show max 1 (m + 1) = m + 1 by omega] at e3
          refine q t q2 H3 _ (m + 1) S (s1.free n2) e3 (s3 _ _ e2) ⟨each, by rw [hlt]; omega, ?_, fun _ _ z => by rw [hlt] at z; omega⟩
          have rc := read_cut hp (m := m) (by omega) (by omega)
          cases hz : p.lines.take m with
          | nil =>
            rw [hz, List.length_nil] at hlt
            omega
          | cons l r =>
            rw [hz] at rc
            exact rc
      · exact q t q2 H3 _ 1 S (s1.free n2) e3 (s3 _ _ e2) ⟨each, by rw [hlt]; omega, by rw [List.take_zero]; exact readO_bad (l := "") (by decide +kernel) [], fun _ _ z => by rw [hlt] at z; omega⟩
    walk_at "xx"
    -- 6
    refine iteI (fun c => ?_) (fun c => ?_)
    · walk_at "xx"
      rename_i q2 H2 n2 s2 e2
      refine o_addL (s2 _ _ e1) e2 (by rw [sizeLine_eq, List.length_map]; simp only [List.length_cons, List.length_nil]; omega) fun q3 H3 n3 s3 e3 => ?_
      have ea3 := s3 _ _ (s2 _ _ ea1)
      have e3 : H3 q3 = some (.lst ((p.lines ++ [("" : Str)]).map V.str)) := by
        rw [List.map_append]
        exact e3
      walk_at "xx"
      refine b_lenL (lst_of ea3) ?_
      rw [List.length_map]
      walk_at "xx"
      rename_i t H4 n4 s4 e4
      have hne : nz (p.lines ++ [("" : Str)]) = p.lines ++ [("" : Str)] := by rw [lines_eq]; rfl
      refine q t q3 H4 _ (p.lines.length + 1) (s1.trans (s2.trans (s3.trans s4))) (s1.free (s2.free n3)) e4 (s4 _ _ e3) ⟨fun l hl => ?_, by rw [List.length_append]; show _ + 1 ≤ 400; omega, by rw [hne]; exact read_more hp, fun _ _ z => by rw [List.length_append] at z; exact absurd z (by show ¬ _ + 1 = _; omega)⟩
      rcases List.mem_append.mp hl with hl | hl
      · exact Pp.row hp l hl
      · rw [List.mem_singleton.mp hl]
        exact ⟨by decide +kernel, ⟨by decide +kernel, by decide +kernel⟩⟩
    refine s_cut (fun σ H' => σ = [some (.ref a), some (.int ((1 + p.rows.length : Nat) : Int)), some (.int ((1 + p.rows.length + p.sb.ls.length : Nat) : Int)), some (.ref d), some (.ref r), some (.int d0), none, none] ∧ H' = H1) ?_ (fun σ H2 p2 => ?_)
    · walk_at "xx"
      refine iteI (fun c => ?_) (fun c => ?_)
      rotate_left
      · walk_at "xx"
        exact ⟨rfl, rfl⟩
      obtain ⟨l, X, el, hX⟩ := dec_sub p
      have hat : (p.lines.map V.str)[1 + p.rows.length]? = some (.str l) := by
        rw [List.getElem?_map, el, List.getElem?_append_right (by rw [List.length_cons]; omega), List.length_cons, show 1 + p.rows.length - (p.rows.length + 1) = 0 by omega]
        rfl
      have hrl := Pp.row hp l (by rw [el]; exact List.mem_append_right _ List.mem_cons_self)
      walk_at "xx"
      refine o_ixL (lst_of ea1) (atI_nat hat) ?_
      walk_at "xx"
      refine l_S (by have := hrl.2.l; rw [sizeLine_eq]; omega) ?_
      walk_at "xx"
      refine iteD (fun c6 => ?_) (fun c6 => ?_)
      rotate_left
      · walk_at "xx"
        exact ⟨rfl, rfl⟩
      walk_at "xx"
      refine b_lenL (lst_of ea1) ?_
      rw [List.length_map]
      walk_at "xx"
      refine b_lenL (lst_of ea1) ?_
      rw [List.length_map]
      walk_at "xx"
      rename_i q2 H2 n2 s2 e2
      have hxl : (p.lines.length : Int) - 1 - ((1 + p.rows.length : Nat) : Int) = (X.length : Int) := by omega
      rw [hxl] at e2
      obtain ⟨v, g, hv⟩ := three (X.length : Int) (p.lines.length : Int) 999999999999 d1
      obtain ⟨k, rfl⟩ : ∃ k : Nat, v = k := ⟨v.toNat, by omega⟩
      have hk1 : X.length ≤ k := by omega
      have hk2 : k < 10 ^ 12 := by omega
      refine o_ixL (lst_of e2) g ?_
      walk_at "xx"
      refine c_strI (by omega) ?_
      walk_at "xx"
      have lk : (intS (k : Int)).length ≤ 13 := int_len (by omega)
      have l6 : (Str.ofString "apart ").length = 6 := by decide +kernel
      refine o_addS (by rw [sizeLine_eq]; show (Str.ofString "apart ").length + (intS (k : Int)).length ≤ _; omega) ?_
      walk_at "xx"
      refine st_L (s2 _ _ e1) (j := 1 + p.rows.length) (ixN_nat (by rw [List.length_map]; omega)) fun H3 c3 e3 => ?_
      have e3 : H3 r = some (.lst ((p.lines.map V.str).set (1 + p.rows.length) (.str (("apart " : Str) ++ intS (k : Int))))) := e3
      rw [← List.map_set, szS (szL_apart k)] at e3
      have ea3 := c3.at (s2 _ _ ea1) (fun z => by rw [z, n1] at ea; cases ea)
      walk_at "xx"
      refine b_lenL (lst_of ea3) ?_
      rw [List.length_map]
      walk_at "xx"
      rename_i t H4 n4 s4 e4
      have S : Same H H4 := fun b o h => s4 _ _ (c3.at (s2 _ _ (s1 _ _ h)) (fun z => by rw [z, n1] at h; cases h))
      have hcl : X.length < 200 := by omega
      have z12 : 10 ∉ tl (szL "apart" k) ∧ Row (szL "apart" k) := szL_ok (by decide +kernel) hk2 (by decide +kernel) (by unfold As; decide +kernel)
      have el2 : (szL "text" p.rows.length :: p.rows).length = 1 + p.rows.length := by rw [List.length_cons]; omega
      have fin : SpOk p d0 (p.lines.set (1 + p.rows.length) (szL "apart" k)) (p.lines.length + 1) := by
        rw [← el2]
        refine sp_err hp (.inr c) el z12.1 z12.2 ?_
        have k0 : 0 < k := by omega
        rw [read_wide2 hp (apart_no k) (szO_szL (by decide +kernel) k0 hk2) X hk1]
        congr 1
        omega
      exact q t r H4 _ (p.lines.length + 1) S n1 e4 (s4 _ _ e3) fin
    obtain ⟨rfl, rfl⟩ := p2
    walk_at "xx"
    refine b_lenL (lst_of ea1) ?_
    rw [List.length_map]
    walk_at "xx"
    have hm0 : (p.lines.length : Int) - ((1 + p.rows.length + p.sb.ls.length : Nat) : Int) - 1 = ((p.ts.length : Nat) : Int) := by omega
    rw [hm0]
    obtain ⟨i, hi⟩ : ∃ i : Nat, d2 % (p.ts.length : Int) = i := ⟨(d2 % (p.ts.length : Int)).toNat, (Int.toNat_of_nonneg (Int.emod_nonneg _ (by omega))).symm⟩
    have hi2 : i < p.ts.length := by
      have := Int.emod_lt_of_pos d2 (show (0 : Int) < (p.ts.length : Int) by omega)
      omega
    rw [hi]
    have hat : (((1 + p.rows.length + p.sb.ls.length : Nat) : Int) + 1 + (i : Int)) = ((1 + p.rows.length + p.sb.ls.length + 1 + i : Nat) : Int) := by omega
    rw [hat]
    refine ⟨d1, rfl, fun z H2 s2 hz => ?_⟩
    walk_at "xx"
    refine st_L (s2 _ _ e1) (j := 1 + p.rows.length + p.sb.ls.length + 1 + i) (ixN_nat (by rw [List.length_map]; omega)) fun H3 c3 e3 => ?_
    rw [← List.map_set] at e3
    walk_at "xx"
    rename_i t H4 n4 s4 e4
    have S : Same H H4 := fun b o h => s4 _ _ (c3.at (s2 _ _ (s1 _ _ h)) (fun z => by rw [z, n1] at h; cases h))
    have k := sp_fail hp (d0 := d0) (dec_tok p hi2) hz.no hz.row (fail_tok hp hz.bad i (by omega))
    have el : (szL "text" p.rows.length :: p.rows ++ (p.sb.ls ++ (p.vd.l :: (p.ts.take i).map Tk.l))).length = 1 + p.rows.length + p.sb.ls.length + 1 + i := by
      simp only [List.length_append, List.length_cons, List.length_map, List.length_take]
      omega
    rw [el] at k
    exact q t r H4 _ (1 + p.rows.length + p.sb.ls.length + 1 + i + 1) S n1 e4 (s4 _ _ e3) k
end
end K30
-- WIDE
-- RAISES PaperReader.take_lines PaperReader.take read_paper
namespace K30
open PySem PySem.Spec PyProof.Rows L2 Wy WN WQ WS WC WE WO WM W3 W4 WR WXD W30

section
variable {P : Program} {w : World} {K : PySem.W.Frag} {mg : Str → Option Value} {base : Heap}
def spRefused : Sp := fun vs H Q _ => ∃ (z : Str) (ls : List Str) (row : Nat), vs = [.str z] ∧ Txt.split z NL = ls ∧ z.length ≤ 1000000 ∧ ls.length ≤ 1000 ∧ (∀ l ∈ ls, Row l) ∧ readO ls = .error row ∧ ∀ H', Q (.int (row : Int)) H'
theorem k_law_refused (T : Tx K mg) (pf : WBX.PF P fileP) : C8.Cal P w K mg base 9 "_law_refused" spRefused [] := by
  refine cal_of (N := n_law_refused) T.d_law_refused sc_law_refused (fun _ _ F => F.bindsN fun _ _ _ _ _ _ us hl => match us, hl with | [_], _ => rfl) (fun vs H Q E h => ?_) (fun f cdv A outer s H vs Q E hr h => ?_)
  · obtain ⟨_, _, _, rfl, _⟩ := h
    rfl
  · obtain ⟨z, ls, row, rfl, es, lz, hll, hrow, er, q⟩ := h
    refine ⟨_, (pss_cons (ps_try_as (i := 1) rfl rfl sc_law_refused.nd rfl rfl ⟨rfl, by decide, .inl T.x_BadPaper⟩ WF.takes0 (fun W pn xe tk _ => (pss_one (ps_expr (WF.pe_cX (k_read_paper T pf) tk hr (by first | decide | omega) (by rfl) (pa_cons (pv 0) pa_nil))))) (fun a oe cls d pn hz hf => (pss_cons (ps_if (pt_tr (pe_callB (WBX.call_isY hz hf : CallR _ _ (WBX.rIsY K a cls d)) (by rfl) T.z_isinstance (by decide +kernel) (pa_cons (pv 1) (pa_cons (pe_tup (pa_cons (C8.pe_gc (v := .ref (He.ga K "BadText")) (by rfl) ⟨_, T.x_BadText, rfl⟩) (pa_cons (C8.pe_gc (v := .ref (He.ga K "BadProgram")) (by rfl) ⟨_, T.x_BadProgram, rfl⟩) (pa_cons (C8.pe_gc (v := .ref (He.ga K "TooLong")) (by rfl) ⟨_, T.x_TooLong, rfl⟩) (pa_cons (C8.pe_gc (v := .ref (He.ga K "TooWide")) (by rfl) ⟨_, T.x_TooWide, rfl⟩) (pa_cons (C8.pe_gc (v := .ref (He.ga K "BadPlace")) (by rfl) ⟨_, T.x_BadPlace, rfl⟩) (pa_cons (C8.pe_gc (v := .ref (He.ga K "BadInput")) (by rfl) ⟨_, T.x_BadInput, rfl⟩) (pa_cons (C8.pe_gc (v := .ref (He.ga K "BadPair")) (by rfl) ⟨_, T.x_BadPair, rfl⟩) (pa_cons (C8.pe_gc (v := .ref (He.ga K "BadEdit")) (by rfl) ⟨_, T.x_BadEdit, rfl⟩) pa_nil))))))))) pa_nil))) : PT _ _ (tTr K _)) (pss_one (ps_ret pe_non)) pss_nil) (pss_cons (ps_if (PW.pt (pw_or (pt_not (pt_tr (pe_callB (WBX.call_isY hz hf : CallR _ _ (WBX.rIsY K a cls d)) (by rfl) T.z_isinstance (by decide +kernel) (pa_cons (pv 1) (pa_cons (C8.pe_gc (v := .ref (He.ga K "BadLine")) (by rfl) ⟨_, T.x_BadLine, rfl⟩) pa_nil))) : PT _ _ (tTr K _))) (pw_or (pt_not (pt_tr (pe_callB (WBX.call_isY hz hf : CallR _ _ (WBX.rIsY K a cls d)) (by rfl) T.z_isinstance (by decide +kernel) (pa_cons (pv 1) (pa_cons (C8.pe_gc (v := .ref (He.ga K "WayError")) (by rfl) ⟨_, T.x_WayError, rfl⟩) pa_nil))) : PT _ _ (tTr K _))) (pw_or1 (pt_not (pt_tr (pe_callB (WBX.call_isY hz hf : CallR _ _ (WBX.rIsY K a cls d)) (by rfl) T.z_isinstance (by decide +kernel) (pa_cons (pv 1) (pa_cons (pe_bltn (v := .ty "ValueError") (by rfl) T.z_ValueError (by decide +kernel) rfl) pa_nil))) : PT _ _ (tTr K _))))))) (pss_one (ps_ret pe_non)) pss_nil) (pss_one (ps_ret (pe_xf (WBX.xf_of T.b_BadPaper.e) T.b_BadPaper.s.row hz hf (pv 1)))))))) (pss_one (ps_ret pe_non))), ?_⟩
    walk_at "xx"
    refine WF.w_cX ?_
    walk_at "xx"
    refine ⟨z, ls, rfl, es, lz, hll, hrow, fun i hi => ?_, fun d hd => ?_⟩
    rotate_left
    · rw [er] at hd
      cases hd
    rw [er] at hi
    cases hi
    refine fun dd H1 ed => ⟨true, T.u_BadPaper_BadPaper.m, fun _ a ha => ?_, fun z => nomatch z⟩
    have C := T.b_BadPaper.e
    walk_at "xx"
    rename_i tp H2 n2 s2 e2
    have ed2 := s2 _ _ ed
    refine WBY.b_none (us := [.ref (He.ga K "BadText"), .ref (He.ga K "BadProgram"), .ref (He.ga K "TooLong"), .ref (He.ga K "TooWide"), .ref (He.ga K "BadPlace"), .ref (He.ga K "BadInput"), .ref (He.ga K "BadPair"), .ref (He.ga K "BadEdit")]) C ed2 e2 (.cons (.own _) (.cons (.own _) (.cons (.own _) (.cons (.own _) (.cons (.own _) (.cons (.own _) (.cons (.own _) (.cons (.own _) .nil)))))))) (fun v hv => ?_) ?_
    · simp only [List.mem_cons, List.not_mem_nil, or_false] at hv
      rcases hv with rfl | rfl | rfl | rfl | rfl | rfl | rfl | rfl
      · exact T.u_BadPaper_BadText.i
      · exact T.u_BadPaper_BadProgram.i
      · exact T.u_BadPaper_TooLong.i
      · exact T.u_BadPaper_TooWide.i
      · exact T.u_BadPaper_BadPlace.i
      · exact T.u_BadPaper_BadInput.i
      · exact T.u_BadPaper_BadPair.i
      · exact T.u_BadPaper_BadEdit.i
    walk_at "xx"
    refine WBY.b_is C ed2 T.u_BadPaper_BadLine ?_
    walk_at "xx"
    refine WBY.b_is C ed2 T.u_BadPaper_WayError ?_
    walk_at "xx"
    refine WBY.b_isT C ed2 T.u_BadPaper_ValueError ?_
    walk_at "xx"
    exact ⟨.ref a, rfl, rfl, rfl, dd, _, _, rfl, ed2, rfl, q H2⟩
end
end K30
-- WIDE
-- RAISES PaperReader.take_lines PaperReader.take read_paper
namespace K30
open PySem PySem.Spec PyProof.Rows L2 Wy WN WQ WS WC WE WO WM W3 W4 WR WXD W30 WB
open W6 (uu)

theorem rp_i12 {i : Int} (h : i.natAbs < 10 ^ 12) : Rp 0 41 (.int i) := by
  have h1 := rp_int (i := i) (Nat.lt_of_lt_of_le h (by decide))
  refine ⟨h1.sh, h1.hd, h1.lv, ?_, h1.dp⟩
  have hp : 10 ^ 12 ≤ 2 ^ 40 := by decide +kernel
  have h2 : i.natAbs.log2 < 40 := by
    by_cases h0 : i.natAbs = 0
    · rw [h0]
      decide
    · rw [Nat.log2_lt h0]
      exact Nat.lt_of_lt_of_le h hp
  show (if i == 0 then 0 else i.natAbs.log2 + 1) ≤ 41
  split <;> omega
theorem rp_str {z : Str} {n : Nat} (h : ∀ c ∈ tl z, c < 128) (hl : z.length ≤ n) : Rp 0 n (.str z) := by
  refine ⟨rfl, rfl, ?_, hl, by simp [PyData.depth]⟩
  simp only [PyData.leavesShort, List.all_eq_true, decide_eq_true_eq]
  exact fun c hc => Nat.lt_of_lt_of_le (h c hc) (by decide)
theorem rp_nats {m : Nat} {ns : List Nat} (hm : ns.length ≤ m) (h : ∀ n ∈ ns, n < 10 ^ 12) : Rp 1 (m * 42) (natsD ns) := (rp_tup (ds := ns.map fun n : Nat => PyData.int (n : Int)) (n := 41) (k := 0) fun x hx => by
  obtain ⟨n, hn, rfl⟩ := List.mem_map.mp hx
  exact rp_i12 (by have := h n hn; omega)).mono (Nat.le_refl _) (by rw [List.length_map]; exact Nat.mul_le_mul_right _ hm)
theorem rp_two {k n m : Nat} {d e : PyData} (h1 : Rp k n d) (h2 : Rp k m e) : Rp (k + 1) (n + m + 2) (.tuple [d, e]) := by
  refine ⟨?_, ?_, ?_, ?_, ?_⟩
  · simp only [PyData.showable, PyData.showableAll, h1.sh, h2.sh, Bool.and_self]
  · simp only [PyData.hasDict, PyData.hasDictAll, h1.hd, h2.hd, Bool.or_self]
  · simp only [PyData.leavesShort, PyData.leavesShortAll, h1.lv, h2.lv, Bool.and_self]
  · have := h1.wt
    have := h2.wt
    simp only [PyData.weight, PyData.weightAll]
    omega
  · have := h1.dp
    have := h2.dp
    simp only [PyData.depth, PyData.depthAll]
    omega
theorem rp_tk {t : Tk} (h : TkO t) : Rp 3 1100 t.d := by
  obtain ⟨h1, h2, h3⟩ := h
  cases t with
  | on => exact (rp_tup (ds := [.str "on"]) (n := 4) (k := 0) fun x hx => by
      rw [List.mem_singleton.mp hx]
      exact rp_str (by decide +kernel) (by decide +kernel)).mono (by decide) (by decide)
  | over => exact (rp_tup (ds := [.str "over"]) (n := 4) (k := 0) fun x hx => by
      rw [List.mem_singleton.mp hx]
      exact rp_str (by decide +kernel) (by decide +kernel)).mono (by decide) (by decide)
  | dead ns => exact (rp_two ((rp_str (z := "dead") (n := 4) (by decide +kernel) (by decide +kernel)).mono (Nat.zero_le 1) (Nat.le_refl _)) (rp_nats (m := 7) (h2 ns rfl) h1.2.2)).mono (by decide) (by decide)
  | met fs =>
    obtain ⟨g1, g2⟩ := h3 fs rfl
    have r := (rp_tup (ds := fs.map natsD) (n := 168) (k := 1) fun x hx => by
      obtain ⟨f, hf, rfl⟩ := List.mem_map.mp hx
      exact rp_nats (m := 4) (g2 f hf) (h1.2.2 f hf).2.2).mono (Nat.le_refl _) (show (fs.map natsD).length * (168 + 1) ≤ 6 * 169 by rw [List.length_map]; omega)
    exact (rp_two ((rp_str (z := "met") (n := 4) (by decide +kernel) (by decide +kernel)).mono (Nat.zero_le 2) (Nat.le_refl _)) r).mono (by decide) (by decide)
theorem join_codes {ls : List Str} (h : ∀ l ∈ ls, RowOk 20 l) : ∀ c ∈ tl (Txt.join NL ls), c < 128 := fun c hc => by
  rw [jl] at hc
  rcases joinL_mem hc with h1 | ⟨p, hp, h1⟩
  · have : tl NL = [10] := by decide +kernel
    rw [this] at h1
    have := List.mem_singleton.mp h1
    omega
  · obtain ⟨z, hz, rfl⟩ := List.mem_map.mp hp
    exact (h z hz).ok c h1
theorem rp_sb {s : Sb} (h : s.ok) : Rp 1 600 s.d := by
  cases s with
  | place t =>
    have h : RowOk 40 t := h
    exact (rp_two (rp_str (z := "place") (n := 5) (by decide +kernel) (by decide +kernel)) (rp_str h.ok h.len)).mono (Nat.le_refl _) (by decide)
  | apart ls =>
    obtain ⟨h1, h2, h3⟩ := h
    exact (rp_two (rp_str (z := "apart") (n := 5) (by decide +kernel) (by decide +kernel)) (rp_str (join_codes h3) (rows_join h2 h3))).mono (Nat.le_refl _) (by decide)
theorem rp_vd {v : Vd} (h : v.ok) : Rp 2 600 v.d := by
  cases v with
  | none => exact (rp_tup (ds := [.str "none"]) (n := 4) (k := 0) fun x hx => by
      rw [List.mem_singleton.mp hx]
      exact rp_str (by decide +kernel) (by decide +kernel)).mono (by decide) (by decide)
  | found ns =>
    obtain ⟨h1, h2, h3⟩ := h
    have r := (rp_tup (ds := ns.map PyData.int) (n := 41) (k := 0) fun x hx => by
      obtain ⟨n, hn, rfl⟩ := List.mem_map.mp hx
      exact rp_i12 (h3 n hn)).mono (Nat.le_refl _) (show (ns.map PyData.int).length * (41 + 1) ≤ 10 * 42 by rw [List.length_map]; omega)
    exact (rp_two ((rp_str (z := "found") (n := 5) (by decide +kernel) (by decide +kernel)).mono (Nat.zero_le 1) (Nat.le_refl _)) r).mono (by decide) (by decide)
/-- what is told of a paper -/
def Pp.told (p : Pp) : PyData := .list [.str (Txt.join NL p.rows), p.sb.d, p.vd.d, .tuple (p.ts.map Tk.d)]
theorem rp_told {p : Pp} (h : p.ok) : Rp 5 100000 p.told := by
  have r1 : Rp 0 500 (.str (Txt.join NL p.rows)) := rp_str (join_codes h.r.2.2) (rows_join h.r.2.1 h.r.2.2)
  have r2 := rp_sb h.s
  have r3 := rp_vd h.v.1
  have r4 := (rp_tup (ds := p.ts.map Tk.d) (n := 1100) (k := 3) fun x hx => by
    obtain ⟨t, ht, rfl⟩ := List.mem_map.mp hx
    exact rp_tk (h.t.2.2 t ht)).mono (Nat.le_refl _) (show (p.ts.map Tk.d).length * (1100 + 1) ≤ 60 * 1101 by rw [List.length_map]; exact Nat.mul_le_mul_right _ h.t.2.1)
  unfold Pp.told
  refine ⟨?_, ?_, ?_, ?_, ?_⟩
  · simp only [PyData.showable, PyData.showableAll, r1.sh, r2.sh, r3.sh, r4.sh, Bool.and_self]
    have := r4.sh
    simp only [PyData.showable] at this
    simp only [this, Bool.and_self]
  · simp only [PyData.hasDict, PyData.hasDictAll, r2.hd, r3.hd, Bool.or_self]
    simpa only [PyData.hasDict, Bool.false_or, Bool.or_false] using r4.hd
  · have a1 := r1.lv
    have a4 := r4.lv
    simp only [PyData.leavesShort] at a1 a4
    simp only [PyData.leavesShort, PyData.leavesShortAll, a1, r2.lv, r3.lv, a4, Bool.and_self]
  · have a1 := r1.wt
    have a2 := r2.wt
    have a3 := r3.wt
    have a4 := r4.wt
    simp only [PyData.weight] at a1 a4
    simp only [PyData.weight, PyData.weightAll]
    omega
  · have a1 := r1.dp
    have a2 := r2.dp
    have a3 := r3.dp
    have a4 := r4.dp
    simp only [PyData.depth] at a1 a4
    simp only [PyData.depth, PyData.depthAll]
    omega
/-- rows at which a reader stops in time -/
structure OkR (rs : List Str) (row : Nat) : Prop where
  each : ∀ l ∈ rs, 10 ∉ tl l ∧ Row l
  len : rs.length ≤ 400
  err : readO (nz rs) = .error row
structure OkP (rs : List Str) (row : Nat) : Prop where
  each : ∀ l ∈ rs, 10 ∉ tl l ∧ Row l
  len : rs.length ≤ 400
  pre : ∃ pre z X, rs = pre ++ z :: X ∧ row = pre.length + 1 ∧ Fail pre z
theorem OkP.r {rs : List Str} {row : Nat} (h : OkP rs row) : OkR rs row := by
  obtain ⟨h1, h2, pre, z, X, rfl, rfl, f⟩ := h
  exact ⟨h1, h2, by rw [nz_mid]; exact f X⟩
theorem OkP.set {rs : List Str} {row k : Nat} {y : Str} (h : OkP rs row) (hk : row ≤ k) (hl : k < rs.length) (hy : BadRow fT y) : OkP (rs.set k y) row := by
  obtain ⟨h1, h2, pre, z, X, rfl, rfl, f⟩ := h
  refine ⟨fun l hl => ?_, by rw [List.length_set]; exact h2, ?_⟩
  · rcases List.mem_or_eq_of_mem_set hl with hl | rfl
    · exact h1 l hl
    · exact ⟨hy.no, hy.row⟩
  · obtain ⟨j, rfl⟩ : ∃ j, k = pre.length + 1 + j := ⟨k - (pre.length + 1), by omega⟩
    refine ⟨pre, z, X.set j y, ?_, rfl, f⟩
    rw [List.set_append_right _ _ (by omega), show pre.length + 1 + j - pre.length = j + 1 by omega]
    rfl
theorem OkP.cut {rs : List Str} {row : Nat} (h : OkP rs row) : OkR (rs.take row) row := by
  obtain ⟨h1, h2, pre, z, X, rfl, rfl, f⟩ := h
  have e : (pre ++ z :: X).take (pre.length + 1) = pre ++ z :: [] := by
    rw [List.take_append, List.take_of_length_le (by omega), show pre.length + 1 - pre.length = 1 by omega]
    rfl
  refine ⟨fun l hl => h1 l (List.mem_of_mem_take hl), Nat.le_trans (by rw [List.length_take]; omega) h2, ?_⟩
  rw [e, nz_mid]
  exact f []
section
variable {P : Program} {w : World} {K : PySem.W.Frag} {mg : Str → Option Value} {base : Heap}
theorem join_rows {ls : List Str} (h : ∀ l ∈ ls, 10 ∉ tl l ∧ Row l) (hl : ls.length ≤ 400) : (ls.map (·.length)).sum + ls.length * (Str.ofString "\n").length ≤ 16777216 ∧ (Txt.join NL ls).length ≤ 1000000 := by
  have h1 := sum_len (ps := ls) (B := 2000) fun l hl => (h l hl).2.l
  have h2 := join_len (y := NL) (ps := ls) (B := 2000) fun l hl => (h l hl).2.l
  have e : (Str.ofString "\n").length = 1 := rfl
  have e2 : NL.length = 1 := by decide +kernel
  rw [e2] at h2
  rw [e]
  omega
theorem split_rows {ls : List Str} (h : ∀ l ∈ ls, 10 ∉ tl l ∧ Row l) : Txt.split (Txt.join NL ls) NL = nz ls := by
  cases ls with
  | nil => decide +kernel
  | cons l r => exact split_nl (by simp) fun x hx => (h x hx).1
theorem nz_rows {ls : List Str} (h : ∀ l ∈ ls, 10 ∉ tl l ∧ Row l) (hl : ls.length ≤ 400) : (nz ls).length ≤ 1000 ∧ ∀ l ∈ nz ls, Row l := by
  cases ls with
  | nil => exact ⟨by decide, fun l hl => by rw [List.mem_singleton.mp hl]; exact ⟨by decide +kernel, by decide +kernel⟩⟩
  | cons l r => exact ⟨by show (l :: r).length ≤ 1000; omega, fun x hx => (h x hx).2⟩
theorem ok_law (T : Tx K mg) (pf : WBX.PF P fileP) {f : Addr} {fd : FuncData} (F : FunD K "law" "law" (defArgs s_law) (defBody s_law) (defScope s_law) [] [] f fd) : WG.FnG P w K mg base 12 f fd ["script"] (spLaw K) := by
  refine WG.fnG (N := n_law) fd F sc_law (fun vs H Q E h => ?_) (fun f cdv A outer s H vs Q E hr hq h => ?_)
  · obtain ⟨a, ns, rfl, _⟩ := h
    rfl
  · obtain ⟨a0, zs, rfl, hS, hl, q⟩ := h
    refine ⟨_, (pss_cons (ps_asg (C8.pe_c (k_law_parts T) hr (by first | decide | omega) (by rfl) (pa_cons (pv 0) pa_nil)) (pg_name (i := 1) sc_law.nd rfl (Or.inl rfl))) (pss_cons (ps_asg (C8.pe_c (k_law_lines T) hr (by first | decide | omega) (by rfl) (pa_cons (pv 1) pa_nil)) (pg_name (i := 2) sc_law.nd rfl (Or.inl rfl))) (pss_cons (ps_asg (pe_op op_add3 pe_int (pe_callB (call_len2 : CallR _ _ (rLn K)) (by rfl) T.z_len (by decide +kernel) (pa_cons (WC.pe_bmK (K := K) PySem.F.plainAttrs_str PySem.F.slot_str_split PySem.F.type_str_split (WV.mt_split1 : MtR _ _ WV.rSplit1) (pe_ix (ix_seq : IxR _ (rIx K)) (pv 1) pe_int (fun _ _ => rfl)) (pa_cons pe_str pa_nil)) pa_nil))) (pg_name (i := 3) sc_law.nd rfl (Or.inl rfl))) (pss_cons (ps_asg (pe_op op_add3 (pv 3) pe_int) (pg_name (i := 4) sc_law.nd rfl (Or.inl rfl))) (C8.pss_cut (ps_if (pt_cmpR (op_eq2 hr.units : OpR _ _ (rEq2 K)) (pe_ix (ix_seq : IxR _ (rIx K)) (pe_ix (ix_seq : IxR _ (rIx K)) (pv 1) pe_int (fun _ _ => rfl)) pe_int (fun _ _ => rfl)) pe_str (nomark _)) (pss_one (ps_asg (pe_op op_add3 (pv 4) (pe_callB (call_len2 : CallR _ _ (rLn K)) (by rfl) T.z_len (by decide +kernel) (pa_cons (WC.pe_bmK (K := K) PySem.F.plainAttrs_str PySem.F.slot_str_split PySem.F.type_str_split (WV.mt_split1 : MtR _ _ WV.rSplit1) (pe_ix (ix_seq : IxR _ (rIx K)) (pe_ix (ix_seq : IxR _ (rIx K)) (pv 1) pe_int (fun _ _ => rfl)) pe_int (fun _ _ => rfl)) (pa_cons pe_str pa_nil)) pa_nil))) (pg_name (i := 4) sc_law.nd rfl (Or.inl rfl)))) pss_nil) (pss_cons (ps_asg (C8.pe_c (k_law_draws T) hr (by first | decide | omega) (by rfl) (pa_cons (pv 0) (pa_cons pe_int (pa_cons (pe_lst (pa_cons pe_int (pa_cons pe_int (pa_cons pe_int (pa_cons pe_int (pa_cons pe_int (pa_cons pe_int pa_nil))))))) pa_nil)))) (pg_name (i := 5) sc_law.nd rfl (Or.inl rfl))) (pss_cons (ps_if (pt_cmpR (op_eq2 hr.units : OpR _ _ (rEq2 K)) (pe_ix (ix_seq : IxR _ (rIx K)) (pv 5) pe_int (fun _ _ => rfl)) pe_int (nomark _)) (pss_cons (ps_asg (WF.pe_cX (k_read_paper T pf) WF.takes0 hr (by first | decide | omega) (by rfl) (pa_cons (pe_join2 pe_str (pv 2) : PE _ _ (tM1 (rJoin K) _ _)) pa_nil)) (pg_name (i := 6) sc_law.nd rfl (Or.inl rfl))) (pss_one (ps_ret (pe_cmpR (op_eq2 hr.units : OpR _ _ (rEq2 K)) (pe_callB (WG.call_reprG hq hr.units : CallR _ _ (rRepr K)) (by rfl) T.z_repr (by decide +kernel) (pa_cons (pe_lst (pa_cons (WO.pe_fldK (K := K) (pv 6)) (pa_cons (WO.pe_fldK (K := K) (pv 6)) (pa_cons (WO.pe_fldK (K := K) (pv 6)) (pa_cons (WO.pe_fldK (K := K) (pv 6)) pa_nil))))) pa_nil)) (pe_callB (WG.call_reprG hq hr.units : CallR _ _ (rRepr K)) (by rfl) T.z_repr (by decide +kernel) (pa_cons (pe_callTy (call_lst : CallR _ _ (rLst K)) (by rfl) T.z_list (by decide +kernel) (pa_cons (pv 1) pa_nil)) pa_nil)) (nomark _))))) pss_nil) (pss_cons (ps_asg (C8.pe_c (k_law_spoilt T) hr (by first | decide | omega) (by rfl) (pa_cons (pv 2) (pa_cons (pv 3) (pa_cons (pv 4) (pa_cons (pv 5) pa_nil))))) (pg_tup (by rfl) (pgs_cons (pg_name (i := 7) sc_law.nd rfl (Or.inl rfl)) (pgs_cons (pg_name (i := 8) sc_law.nd rfl (Or.inr rfl)) pgs_nil)) : PG _ _ (gTup K _ _))) (C8.pss_cut (ps_if (PW.pt (pw_and (pt_cmpR (op_ne2 hr.units : OpR _ _ (rNe2 K)) (pe_ix (ix_seq : IxR _ (rIx K)) (pv 5) pe_int (fun _ _ => rfl)) pe_int (nomark _)) (pw_and (pt_cmpR (op_ne2 hr.units : OpR _ _ (rNe2 K)) (pe_ix (ix_seq : IxR _ (rIx K)) (pv 5) pe_int (fun _ _ => rfl)) pe_int (nomark _)) (pw_and1 (pt_cmpR (op_eq2 hr.units : OpR _ _ (rEq2 K)) (pe_callB (call_len2 : CallR _ _ (rLn K)) (by rfl) T.z_len (by decide +kernel) (pa_cons (pv 7) pa_nil)) (pe_callB (call_len2 : CallR _ _ (rLn K)) (by rfl) T.z_len (by decide +kernel) (pa_cons (pv 2) pa_nil)) (nomark _)))))) (pss_cons (ps_setLc (i := 9) (own := [("k", 11)]) (g := gName 11) (tt := tTest _) (by rfl) sc_law.nd rfl rfl (sw_true rfl rfl rfl (by decide +kernel)) (pi_list (pe_op op_add3 (pe_lst (pa_cons (pv 3) (pa_cons (pv 4) pa_nil))) (pe_listRg rfl (by rfl) T.z_list (prg_2 (by rfl) T.z_range (pe_op op_add3 (pv 4) pe_int) (pe_callB (call_len2 : CallR _ _ (rLn K)) (by rfl) T.z_len (by decide +kernel) (pa_cons (pv 2) pa_nil))) : PE _ _ (tLstRg _))) : PI _ _ _ (iList K _)) (blkOk_by (own := [("k", 11)]) (N := n_law) (sc := defScope s_law) (by decide +kernel)) (fun _ _ _ _ _ => pg_name (i := 11) sc_law.nd rfl (Or.inl rfl)) (fun _ _ _ _ _ => (pts_one (pt_cmpR op_ge (pv 11) (pv 8) (nomark _)))) (fun _ _ _ _ _ => (pv 11))) (C8.pss_cut (ps_if (PW.pt (pw_and (pt_cmpR (op_eq2 hr.units : OpR _ _ (rEq2 K)) (pe_ix (ix_seq : IxR _ (rIx K)) (pv 5) pe_int (fun _ _ => rfl)) pe_int (nomark _)) (pw_and1 (pt_cmpR op_gt (pe_callB (call_len2 : CallR _ _ (rLn K)) (by rfl) T.z_len (by decide +kernel) (pa_cons (pv 9) pa_nil)) pe_int (nomark _))))) (pss_one (ps_asg (C8.pe_c (k_law_odd T) hr (by first | decide | omega) (by rfl) (pa_cons (pe_ix (ix_seq : IxR _ (rIx K)) (pv 5) pe_int (fun _ _ => rfl)) pa_nil)) (pg_sub (pv 7) (pe_ix (ix_seq : IxR _ (rIx K)) (pv 9) (pe_op op_mod (pe_callTy call_int2 (by rfl) T.z_int (by decide +kernel) (pa_cons (pe_ix (ix_seq : IxR _ (rIx K)) (pv 5) pe_int (fun _ _ => rfl)) pa_nil)) (pe_callB (call_len2 : CallR _ _ (rLn K)) (by rfl) T.z_len (by decide +kernel) (pa_cons (pv 9) pa_nil))) (fun _ _ => rfl)) set_list))) pss_nil) (pss_one (ps_if (pt_cmpR (op_eq2 hr.units : OpR _ _ (rEq2 K)) (pe_ix (ix_seq : IxR _ (rIx K)) (pv 5) pe_int (fun _ _ => rfl)) pe_int (nomark _)) (pss_one (ps_asg (pe_slice (sl_2 : SlR _ (rSl2 K)) (pv 7) po_none (po_some (pv 8))) (pg_name (i := 7) sc_law.nd rfl (Or.inl rfl)))) pss_nil)))) pss_nil) (pss_cons (ps_asg (C8.pe_c (k_law_refused T pf) hr (by first | decide | omega) (by rfl) (pa_cons (pe_join2 pe_str (pv 7) : PE _ _ (tM1 (rJoin K) _ _)) pa_nil)) (pg_name (i := 10) sc_law.nd rfl (Or.inl rfl))) (pss_one (ps_ret (pe_and (pe_callB (call_isi2 : CallR _ _ (rIsi2 K)) (by rfl) T.z_isinstance (by decide +kernel) (pa_cons (pv 10) (pa_cons (pe_bltn (v := .ty "int") (by rfl) T.z_int (by decide +kernel) rfl) pa_nil))) (pe_and (pe_not (pe_callB (call_isi2 : CallR _ _ (rIsi2 K)) (by rfl) T.z_isinstance (by decide +kernel) (pa_cons (pv 10) (pa_cons (pe_bltn (v := .ty "bool") (by rfl) T.z_bool (by decide +kernel) rfl) pa_nil)))) (pe_one (pe_cmpR (op_eq2 hr.units : OpR _ _ (rEq2 K)) (pv 10) (pv 8) (nomark _))))))))))))))))), ?_⟩
    have cl := T.c_Paper
    have a1 := T.a_Paper_text
    have a2 := T.a_Paper_subject
    have a3 := T.a_Paper_verdict
    have a4 := T.a_Paper_tokens
    walk_at "xx"
    refine ⟨a0, zs, rfl, hS, fun b H1 p S1 hp hb => ?_⟩
    walk_at "xx"
    refine ⟨b, p, rfl, hb, hp, fun l H2 s2 e2 => ?_⟩
    have hb2 := hb.tk s2.tk
    obtain ⟨sv, vv, tv, eb, t1, t2, t3⟩ := id hb2
    have hrl := rows_join hp.r.2.1 hp.r.2.2
    have hrn := hp.r.2.1
    have hll := lines_len p
    have hcount := Pp.count hp
    have small : ∀ n : Nat, n ≤ 100000 → n ≤ sizeLine := fun n h => by rw [sizeLine_eq]; omega
    have S2 := S1.trans s2
    clear S1 s2 hb
    walk_at "xx"
    refine ⟨rfl, ?_⟩
    walk_at "xx"
    refine WV.m_split (by decide +kernel) (small _ (by omega)) fun c1 H3 n3 s3 e3 => ?_
    rw [split_nl hp.r.1 (fun l hl => (hp.r.2.2 l hl).no)] at e3
    walk_at "xx"
    refine b_lenL (lst_of e3) ?_
    rw [List.length_map]
    have S3 := S2.trans s3
    have eb3 := s3 _ _ eb
    have el3 := s3 _ _ e2
    have t13 := t1.tk s3.tk
    have t23 := t2.tk s3.tk
    have t33 := t3.tk s3.tk
    walk_at "xx"
    have e1R : (1 + (p.rows.length : Int)) = ((1 + p.rows.length : Nat) : Int) := by omega
    rw [e1R]
    clear s3 e3 n3 e2 eb t1 t2 t3 S2 hb2
    refine s_cut (fun σ H' => σ = [some (.ref a0), some (.ref b), some (.ref l), some (.int ((1 + p.rows.length : Nat) : Int)), some (.int ((1 + p.rows.length + p.sb.ls.length : Nat) : Int)), none, none, none, none, none, none, none] ∧ Same H3 H') ?_ (fun σ H4 p4 => ?_)
    · cases hs : p.sb with
      | place t =>
        rw [hs] at t13
        obtain ⟨sa, v1, v2, rfl, es, t1, t2⟩ := tp2 t13
        cases t1
        cases t2
        walk_at "xx"
        exact ⟨by rw [show (((1 + p.rows.length : Nat) : Int) + 1) = ((1 + p.rows.length + (Sb.place t).ls.length : Nat) : Int) from rfl]; rfl, Same.refl _⟩
      | apart ls =>
        have hsok := hp.s
        rw [hs] at t13 hsok
        obtain ⟨g1, g2, g3⟩ := hsok
        obtain ⟨sa, v1, v2, rfl, es, t1, t2⟩ := tp2 t13
        cases t1
        cases t2
        have hal := rows_join g2 g3
        walk_at "xx"
        refine ⟨rfl, ?_⟩
        walk_at "xx"
        refine WV.m_split (by decide +kernel) (small _ (by omega)) fun c5 H5 n5 s5 e5 => ?_
        rw [split_nl g1 (fun l hl => (g3 l hl).no)] at e5
        walk_at "xx"
        refine b_lenL (lst_of e5) ?_
        rw [List.length_map]
        walk_at "xx"
        have eL : (((1 + p.rows.length : Nat) : Int) + 1 + (ls.length : Int)) = ((1 + p.rows.length + (Sb.apart ls).ls.length : Nat) : Int) := by
          show _ = ((1 + p.rows.length + (ls.length + 1) : Nat) : Int)
          omega
        exact ⟨by rw [eL]; rfl, s5⟩
    obtain ⟨rfl, s4⟩ := p4
    have S4 := S3.trans s4
    walk_at "xx"
    rename_i q5 H5 n5 s5 e5
    refine ⟨a0, q5, zs, [10, 1000, 1000, 4, 1000, 1000], _, rfl, (S4.trans s5).seq hS, lst_of e5, szOk_of (by decide +kernel), fun dp H6 ds s6 n6 e6 hd => ?_⟩
    obtain ⟨d0, _, rfl, l0, u0, hd⟩ := hd.inv
    obtain ⟨d1, _, rfl, l1, u1, hd⟩ := hd.inv
    obtain ⟨d2, _, rfl, l2, u2, hd⟩ := hd.inv
    obtain ⟨d3, _, rfl, l3, u3, hd⟩ := hd.inv
    obtain ⟨d4, _, rfl, l4, u4, hd⟩ := hd.inv
    obtain ⟨d5, _, rfl, l5, u5, hd⟩ := hd.inv
    obtain rfl := hd.nil_inv
    clear hd
    have e6 : H6 dp = some (.lst [.int d0, .int d1, .int d2, .int d3, .int d4, .int d5]) := e6
    have s46 := s4.trans (s5.trans s6)
    have S6 := S3.trans s46
    have eb6 := s46 _ _ eb3
    have el6 := s46 _ _ el3
    have t16 := t13.tk s46.tk
    have t26 := t23.tk s46.tk
    have t36 := t33.tk s46.tk
    clear s4 s5 s6 n5 e5 n6 S3 S4 eb3 el3 t13 t23 t33 s46
    walk_at "xx"
    have hjp := join_rows (Pp.row hp) (by omega)
    refine iteI (fun c => ?_) (fun c => ?_)
    · walk_at "xx"
      refine WF.w_cX ?_
      walk_at "xx"
      refine m_join (lst_of el6) hjp.1 ?_
      have hnz : nz p.lines = p.lines := by rw [lines_eq]; rfl
      have hnr := nz_rows (Pp.row hp) (by omega)
      refine ⟨_, _, rfl, split_rows (Pp.row hp), hjp.2, hnr.1, hnr.2, fun i hi => ?_, fun d hd x H7 s7 nx po => ?_⟩
      · rw [hnz, read_good hp] at hi
        cases hi
      rw [hnz, read_good hp] at hd
      cases hd
      obtain ⟨dx, sx, vx, tx, ex, hsx, hvx, htx⟩ := po
      have eb7 := s7 _ _ eb6
      have t17 := t16.tk s7.tk
      have t27 := t26.tk s7.tk
      have t37 := t36.tk s7.tk
      have ex : H7 x = some (.ins (He.ga K "Paper") dx (K30.pf (.str (Txt.join NL p.rows)) sx vx tx)) := ex
      walk_at "xx"
      rename_i q8 H8 n8 s8 e8
      refine b_repr (d := p.told) (.lst (lst_of e8) (.cons (.str _) (.cons (hsx.tk s8.tk).dp (.cons (hvx.tk s8.tk).dp (.cons (htx.tk s8.tk).dp .nil))))) (rp_told hp) (by decide) (by decide) ?_
      have eb8 := s8 _ _ eb7
      walk_at "xx"
      refine ls_newT (tup_of eb8) fun q9 H9 n9 s9 e9 => ?_
      have k9 := s8.trans s9
      walk_at "xx"
      refine b_repr (d := p.told) (.lst (lst_of e9) (.cons (.str _) (.cons (t17.tk k9.tk).dp (.cons (t27.tk k9.tk).dp (.cons (t37.tk k9.tk).dp .nil))))) (rp_told hp) (by decide) (by decide) ?_
      walk_at "xx"
      rw [decide_eq_true rfl]
      exact q _
    walk_at "xx"
    refine ⟨l, dp, p, d0, d1, d2, d3, d4, d5, rfl, hp, el6, e6, fun t rp H7 rs row s7 n7 e7 e7r sp => ?_⟩
    have el7 := s7 _ _ el6
    have e67 := s7 _ _ e6
    walk_at "xx"
    refine s_cut (fun σ H' => ∃ (rp' : Addr) (rs' : List Str) (x y : Option V), σ = [some (.ref a0), some (.ref b), some (.ref l), some (.int ((1 + p.rows.length : Nat) : Int)), some (.int ((1 + p.rows.length + p.sb.ls.length : Nat) : Int)), some (.ref dp), none, some (.ref rp'), some (.int (row : Int)), x, none, y] ∧ H' rp' = some (.lst (rs'.map V.str)) ∧ OkR rs' row) ?_ (fun σ H8 p8 => ?_)
    · walk_at "xx"
      have okr : OkR rs row := ⟨sp.each, sp.len, sp.err⟩
      refine iteNI (fun c2 => ?_) (fun c2 => ?_)
      rotate_left
      · walk_at "xx"
        exact ⟨rp, rs, none, none, rfl, e7r, okr⟩
      walk_at "xx"
      refine iteNI (fun c7 => ?_) (fun c7 => ?_)
      rotate_left
      · walk_at "xx"
        exact ⟨rp, rs, none, none, rfl, e7r, okr⟩
      walk_at "xx"
      refine b_lenL (lst_of e7r) ?_
      rw [List.length_map]
      walk_at "xx"
      refine b_lenL (lst_of el7) ?_
      rw [List.length_map]
      walk_at "xx"
      refine iteI (fun cl => ?_) (fun cl => ?_)
      rotate_left
      · walk_at "xx"
        exact ⟨rp, rs, none, none, rfl, e7r, okr⟩
      walk_at "xx"
      rename_i q8 H8 n8 s8 e8
      have okp : OkP rs row := ⟨sp.each, sp.len, sp.pre c2 c7 (by omega)⟩
      have el8 := s8 _ _ el7
      refine WBY.w_lrg2 ?_
      walk_at "xx"
      refine b_lenL (lst_of el8) ?_
      rw [List.length_map]
      refine WBY.l_rg (.of_le (by omega) (by omega) (by omega) (by omega)) fun q9 H9 n9 s9 e9 => ?_
      obtain ⟨xs, hxs, hb⟩ : ∃ xs : List Int, [V.int ((1 + p.rows.length : Nat) : Int), V.int ((1 + p.rows.length + p.sb.ls.length : Nat) : Int)] ++ rgV (((1 + p.rows.length + p.sb.ls.length : Nat) : Int) + 1) (p.lines.length : Int) = xs.map V.int ∧ (∀ k ∈ xs, 0 ≤ k ∧ k < (p.lines.length : Int)) ∧ xs.length ≤ 1000 := by
        refine ⟨((1 + p.rows.length : Nat) : Int) :: ((1 + p.rows.length + p.sb.ls.length : Nat) : Int) :: (List.range ((p.lines.length : Int) - (((1 + p.rows.length + p.sb.ls.length : Nat) : Int) + 1)).toNat).map fun i => (((1 + p.rows.length + p.sb.ls.length : Nat) : Int) + 1) + (i : Nat), ?_, fun k hk => ?_, ?_⟩
        · unfold rgV
          simp only [List.map_cons, List.map_map]
          rfl
        · have hT0 : 0 < p.ts.length := List.length_pos_iff.mpr hp.t.1
          rcases List.mem_cons.mp hk with rfl | hk
          · omega
          rcases List.mem_cons.mp hk with rfl | hk
          · omega
          obtain ⟨i, hi, rfl⟩ := List.mem_map.mp hk
          have := List.mem_range.mp hi
          omega
        · simp only [List.length_cons, List.length_map, List.length_range]
          omega
      obtain ⟨hb, hxl⟩ := hb
      refine o_addL (s9 _ _ e8) e9 (by rw [sizeLine_eq, rgV_length]; simp only [List.length_cons, List.length_nil]; omega) fun qa Ha na sa ea => ?_
      have ea : Ha qa = some (.lst ([V.int ((1 + p.rows.length : Nat) : Int), V.int ((1 + p.rows.length + p.sb.ls.length : Nat) : Int)] ++ rgV (((1 + p.rows.length + p.sb.ls.length : Nat) : Int) + 1) (p.lines.length : Int))) := ea
      rw [hxs] at ea
      have k7a : Same H7 Ha := s8.trans (s9.trans sa)
      refine k_l (lst_of ea) ?_
      refine c_sel (p := fun k => decide ((row : Int) ≤ k)) (F := PyData.int) (G := PyData.int) (.inl ⟨rfl, lst_of ea⟩) (tp_ints xs) (by omega) (fun x => rfl) (fun x u H4 N hx t s4 hN => ?_) (fun x u H4 N hx hp t s4 hN => ?_) (fun D Hb ys nD sb eb t => ?_)
      · cases t
        walk_at "xx"
        exact hN H4 (Same.refl _)
      · cases t
        walk_at "xx"
        exact hN _ H4 (Same.refl _) (.int x)
      have ey : ys = (xs.filter fun k => decide ((row : Int) ≤ k)).map V.int := ints_tp t
      subst ey
      have hbL : ∀ k ∈ xs.filter fun k => decide ((row : Int) ≤ k), (row : Int) ≤ k ∧ 0 ≤ k ∧ k < (p.lines.length : Int) := fun k hk => by
        obtain ⟨h1, h2⟩ := List.mem_filter.mp hk
        exact ⟨of_decide_eq_true h2, hb k h1⟩
      generalize (xs.filter fun k => decide ((row : Int) ≤ k)) = L at *
      have k7b := k7a.trans sb
      have e6b := k7b _ _ e67
      have erb := k7b _ _ e7r
      clear t ea e9 e8 hxs sa s9 s8 n8 n9 na k7a sb
      walk_at "xx"
      refine s_cut (fun σ H' => σ = [some (.ref a0), some (.ref b), some (.ref l), some (.int ((1 + p.rows.length : Nat) : Int)), some (.int ((1 + p.rows.length + p.sb.ls.length : Nat) : Int)), some (.ref dp), none, some (.ref rp), some (.int (row : Int)), some (.ref D), none, none] ∧ H' dp = some (.lst [.int d0, .int d1, .int d2, .int d3, .int d4, .int d5]) ∧ ∃ rs', H' rp = some (.lst (rs'.map V.str)) ∧ OkP rs' row) ?_ (fun σ Hc pc => ?_)
      · walk_at "xx"
        refine iteI (fun c3 => ?_) (fun c3 => ?_)
        rotate_left
        · walk_at "xx"
          exact ⟨rfl, e6b, rs, erb, okp⟩
        walk_at "xx"
        refine b_lenL (lst_of eb) ?_
        rw [List.length_map]
        walk_at "xx"
        refine iteD (fun hL => ?_) (fun hL => ?_)
        rotate_left
        · walk_at "xx"
          exact ⟨rfl, e6b, rs, erb, okp⟩
        walk_at "xx"
        refine ⟨d5, rfl, fun z Hd sd hz => ?_⟩
        have e6d := sd _ _ e6b
        have erd := sd _ _ erb
        have ebd := sd _ _ eb
        walk_at "xx"
        refine b_lenL (lst_of ebd) ?_
        rw [List.length_map]
        walk_at "xx"
        obtain ⟨j, hj⟩ : ∃ j : Nat, d4 % (L.length : Int) = j := ⟨(d4 % (L.length : Int)).toNat, (Int.toNat_of_nonneg (Int.emod_nonneg _ (by omega))).symm⟩
        have hj2 : j < L.length := by
          have := Int.emod_lt_of_pos d4 hL
          omega
        obtain ⟨h1, h2, h3⟩ := hbL L[j] (List.getElem_mem hj2)
        obtain ⟨k, hk⟩ : ∃ k : Nat, L[j] = (k : Int) := ⟨L[j].toNat, (Int.toNat_of_nonneg h2).symm⟩
        have hgk : (L.map V.int)[j]? = some (.int (k : Int)) := by rw [List.getElem?_map, List.getElem?_eq_getElem hj2, ← hk]; rfl
        rw [hk] at h1 h3
        rw [hj]
        refine o_ixL (lst_of ebd) (atI_nat hgk) ?_
        walk_at "xx"
        refine st_L erd (j := k) (ixN_nat (by rw [List.length_map]; omega)) fun He ce ee => ?_
        rw [← List.map_set] at ee
        have hne : dp ≠ rp := fun z => by
          rw [z, n7] at e6
          cases e6
        exact ⟨rfl, ce.at e6d hne, _, ee, okp.set (by omega) (by omega) hz⟩
      obtain ⟨rfl, e6c, rs', erc, okc⟩ := pc
      walk_at "xx"
      refine iteI (fun c3 => ?_) (fun c3 => ?_)
      rotate_left
      · walk_at "xx"
        exact ⟨rp, rs', _, _, rfl, erc, okc.r⟩
      walk_at "xx"
      rename_i q8 Hd n8 sd ed
      have hrl8 : row ≤ rs'.length := by
        obtain ⟨pre, z, X, h1, h2, _⟩ := okc.pre
        rw [h1, h2, List.length_append, List.length_cons]
        omega
      have ec : cutV (rs'.map V.str) none (some (row : Int)) = (rs'.take row).map V.str := by
        unfold cutV
        rw [HT.sIx_nat, HT.sIx_none, List.map_take, List.drop_zero, Nat.min_eq_left (by rw [List.length_map]; omega), Nat.sub_zero]
      rw [ec] at ed
      exact ⟨q8, _, _, _, rfl, ed, okc.cut⟩
    obtain ⟨rp', rs', x9, y9, rfl, e8, ok8⟩ := p8
    have hj8 := join_rows ok8.each ok8.len
    have hn8 := nz_rows ok8.each ok8.len
    walk_at "xx"
    refine m_join (lst_of e8) hj8.1 ?_
    refine ⟨_, _, row, rfl, split_rows ok8.each, hj8.2, hn8.1, hn8.2, ok8.err, fun H9 => ?_⟩
    walk_at "xx"
    rw [decide_eq_true rfl]
    exact q _
end
end K30
open PySem PySem.W PySem.Calls PyProof.Rows
set_option maxHeartbeats 0 in
theorem PySem.Challenge.cw_wayorring_k30_wrong_rows_of_papers_holds : PySem.Challenge.rw_wayorring_k30_wrong_rows_of_papers.Holds := by
  w_on; o_law
  refine HandSHeadRun.head_any (r := OpenLaw.row PySem.Challenge.rw_wayorring_k30_wrong_rows_of_papers) (q := view (OpenLaw.row PySem.Challenge.rw_wayorring_k30_wrong_rows_of_papers).prog [48]) (H := K30.hk) (ob := K30.ob) (M := 20000) (loose := K30.loose) (d := HandSHeadRun.topDef (OpenLaw.row PySem.Challenge.rw_wayorring_k30_wrong_rows_of_papers).prog 48) (kwd := []) K30.ob_eq
    (by kernel_rfl) (fun s => by kernel_rfl) K30.run (by kernel_rfl) (by kernel_rfl) (by kernel_rfl) (by rfl) (by first | assumption | decide +kernel) (by decide +kernel) ⟨rfl, rfl, rfl, rfl, rfl, by decide +kernel⟩ ?hw ?hc
  case hw => w_witness2
  case hc =>
    refine WG.walkG (l := PySem.Challenge.rw_wayorring_k30_wrong_rows_of_papers) (n := 63) (k := 12) (x := "script") rfl (by decide) (by kernel_rfl) ⟨rfl, by decide, by decide⟩ ?F
    intro w mg fa h Y G hmg0
    obtain ⟨K, KX, c⟩ := Y
    have hmg : mg ("law" : PySem.Str) = some (.ref fa) := by
      have e : (HandSHeadRun.topDef (OpenLaw.row PySem.Challenge.rw_wayorring_k30_wrong_rows_of_papers).prog 48).name = ("law" : PySem.Str) := by kernel_rfl
      rw [← e]
      exact hmg0
    have T := K30.tx_of KX G c
    obtain ⟨f, fd, F, e2⟩ := T.d_law.ex
    have e3 := hmg.symm.trans e2
    cases e3
    exact ⟨K, fd, K30.spLaw K, KX, fun s v => L2.FunD.bindsA (ps := ["script"]) F (fun _ _ _ _ _ _ us hl => match us, hl with | [_], _ => rfl) s [v] rfl, fun H a ns hl hS => ⟨a, ns, rfl, hS, hl, fun _ => rfl⟩, fun base => K30.ok_law T ⟨by kernel_rfl, by kernel_rfl⟩ F⟩

