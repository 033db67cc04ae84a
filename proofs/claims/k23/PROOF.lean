import PyProof.Rows.All
import Wide.All
import OpenK.AllK
import Wide.FinOn
import KE.KStateDown
import HandS.ForMost
import HandS.IsInst
import HandS.Codes
import HandS.Exc
import HandS.Defaults
import HandS.Head0
import HandS.Head1
import HandS.Head2
import HandS.HeadEnd
import HandS.HeadHook1
import HandS.HeadHook2
import HandS.HeadHook3
import HandS.HeadHook4
import HandS.FStr
import HandS.Dict
import HandS.More
import Wide.Once
import HandS.Wide
import HandS.Style
import HandS.Star
import HandS.TupAny
import HandS.Conv
import PyProof.ReprRoads
import PyProof.ReprLen
import PyProof.P3Eq
import HandS.Lambda
import HandS.EndTab
import HandS.HeadWalk
import HandS.Property
import HandS.Walk
import HandS.Iter
import PyProof.DictMoreH
import HandS.CallLocal
import HandS.Text
import HandS.DictComp
import HandS.ExcOwn
import HandS.ExcIs
import HandS.TryOnly
import KE.IntTextLaws
import PyProof.Rows.StrDigitsNeg
import HandS.Deep
import PySem.Challenge.RW_wayorring_k23_place_texts
set_option Elab.async false
set_option linter.all false
set_option maxRecDepth 100000
set_option maxHeartbeats 8000000
/-! Wy: rules that take operands of several kinds, and steps. -/
namespace Wy
open PySem PySem.Spec PyProof.Rows L2
section
variable {X : Cx}
theorem CallR.or {f : Value} {r r' : List V → Hp → VK → Prop} (h : CallR X f r) (h' : CallR X f r') : CallR X f (fun xs H Q => r xs H Q ∨ r' xs H Q) := by
  intro pins s σ H xs us Q I rv q
  rcases q with q | q
  · exact h pins s σ H xs us Q I rv q
  · exact h' pins s σ H xs us Q I rv q
/-- k times a text -/
def repS (z : Str) (k : Int) : Str := ⟨(List.replicate k.toNat z.cps.toList).flatten.toArray⟩
theorem foldl_rep (a : Array Nat) : ∀ (n : Nat) (acc : Array Nat), ((List.replicate n a).foldl (· ++ ·) acc) = (acc.toList ++ (List.replicate n a.toList).flatten).toArray
  | 0, acc => by simp
  | n + 1, acc => by
    rw [List.replicate_succ, List.foldl_cons, foldl_rep a n, List.replicate_succ, List.flatten_cons]
    simp
theorem repS_eq (z : Str) (n : Int) : (⟨(List.replicate n.toNat z.cps).foldl (· ++ ·) #[]⟩ : Str) = repS z n := by
  unfold repS
  rw [foldl_rep]
  simp
def rMulSI : R2 := fun x y H Q => ∃ z k, x = .str z ∧ y = .int k ∧ 0 ≤ k ∧ k ≤ 1000 ∧ z.length ≤ 1000 ∧ Q (.str (repS z k)) H
theorem op_mulSI : OpR X (binaryOp .Mult) rMulSI := by
  intro pins s σ H x y v u Q I rx ry h
  obtain ⟨z, k, rfl, rfl, h0, h1, h2, q⟩ := h
  obtain ⟨t, rfl⟩ := rx
  obtain ⟨t', rfl⟩ := ry
  have hs : sizeLine = 16777216 := sizeLine_eq
  refine PySem.P.mul_str ?_ (fun a b => ?_) (fun a b => ?_) ?_
  · rw [decide_eq_false (by omega), decide_eq_false (by omega)]
    rfl
  · have h3 : (1000 : Int) ≤ (2 ^ 63 - 1) / k := (Int.le_ediv_iff_mul_le (by omega)).mpr (by omega)
    omega
  · unfold Builtin.Str.tooLong
    rw [decide_eq_false_iff_not]
    have h4 : z.length * k.toNat ≤ 1000 * 1000 := Nat.mul_le_mul h2 (by omega)
    omega
  · by_cases a : k < 1
    · have ek : k = 0 := by omega
      subst ek
      rw [if_pos a]
      have e : repS z 0 = Str.empty := rfl
      rw [e] at q
      exact ⟨by decide, .str Str.empty, H, I.tok _, ⟨_, rfl⟩, q⟩
    · rw [if_neg a]
      by_cases b : (k == 1 || z.length == 0) = true
      · rw [if_pos b]
        have e : repS z k = z := by
          rcases Bool.or_eq_true_iff.mp b with b | b
          · have e1 : k = 1 := by simpa using b
            subst e1
            unfold repS
            simp
          · have e1 : z.length = 0 := by simpa using b
            have e2 : z.cps = #[] := by simpa [Str.length] using e1
            obtain ⟨c⟩ := z
            unfold repS
            simp at e2
            subst e2
            simp
        rw [e] at q
        exact ⟨.str z, H, I, ⟨_, rfl⟩, q⟩
      · rw [if_neg b, repS_eq]
        refine ⟨?_, .str (repS z k), H, I.tok _, ⟨_, rfl⟩, q⟩
        have h4 : (repS z k).length = k.toNat * z.length := by
          unfold repS
          simp [Str.length, List.length_flatten, List.map_replicate, List.sum_replicate_nat]
        rw [h4]
        have h5 : k.toNat * z.length ≤ 1000 * 1000 := Nat.mul_le_mul (by omega) h2
        omega
/-- + of two ints, two texts, two lists -/
def rAddS : R2 := fun x y H Q => ∃ i j, x = .str i ∧ y = .str j ∧ i.length + j.length ≤ sizeLine ∧ Q (.str (i ++ j)) H
def rAddI : R2 := rI0 fun i j => .int (i + j)
def rAdd3 : R2 := fun x y H Q => rAddI x y H Q ∨ rAddS x y H Q ∨ rCat x y H Q
theorem op_add3 : OpR X (binaryOp .Add) rAdd3 := op_add.or (op_add_str.or op_cat)
def rMul2 : R2 := fun x y H Q => rI CMul (fun i j => .int (i * j)) x y H Q ∨ rMulSI x y H Q
theorem op_mul2 : OpR X (binaryOp .Mult) rMul2 := op_mul.or op_mulSI
/-- == -/
def rEq2 (K : PySem.W.Frag) : R2 := fun x y H Q => rEq x y H Q ∨ rEqD K x y H Q
theorem op_eq2 (hu : X.A.units + 64 < cLine) : OpR X (compareOp .Eq) (rEq2 X.K) := op_eq.or (op_eqD hu)
def rNe2 (K : PySem.W.Frag) : R2 := fun x y H Q => rNe x y H Q ∨ rNeD K x y H Q
theorem op_ne2 (hu : X.A.units + 64 < cLine) : OpR X (compareOp .NotEq) (rNe2 X.K) := op_ne.or (op_neD hu)
/-- in: a sign in a text; a flat item in a list or tuple -/
def rInS : R2 := fun x y H Q => ∃ (c : Nat) (z : Str), x = .str ⟨#[c]⟩ ∧ y = .str z ∧ Q (.bl (decide (c ∈ z.cps.toList))) H
def rNiS : R2 := fun x y H Q => ∃ (c : Nat) (z : Str), x = .str ⟨#[c]⟩ ∧ y = .str z ∧ Q (.bl (!decide (c ∈ z.cps.toList))) H
def rIn2 (K : PySem.W.Frag) : R2 := fun x y H Q => rInS x y H Q ∨ rIn K false x y H Q
def rNi2 (K : PySem.W.Frag) : R2 := fun x y H Q => rNiS x y H Q ∨ rIn K true x y H Q
theorem op_in2 : OpR X (compareOp .In) (rIn2 X.K) := op_in_sign.or op_in_seq
theorem op_ni2 : OpR X (compareOp .NotIn) (rNi2 X.K) := op_notIn_sign.or op_notIn_seq
def rSl2 (K : PySem.W.Frag) : V → Option Int → Option Int → Hp → VK → Prop := fun x lo hi H Q => rSlS x lo hi H Q ∨ rSlL K x lo hi H Q
theorem sl_2 : SlR X (rSl2 X.K) := sl_str.or sl_list
def rInt : List V → Hp → VK → Prop := fun xs H Q => ((∃ i, xs = [.int i] ∧ Q (.int i) H) ∨ ∃ k, xs = [.bl k] ∧ Q (.int (if k then 1 else 0)) H) ∨ ∃ a n, xs = [.str a] ∧ PySem.intText? a = some n ∧ a.length ≤ 640 ∧ Q (.int n) H
theorem call_int2 : CallR X (.type "int") rInt := CallR.or call_int1 call_int_str
def rAbs : List V → Hp → VK → Prop := fun xs H Q => ∃ i, xs = [.int i] ∧ Q (.int (if i < 0 then -i else i)) H
theorem call_abs2 : CallR X (.builtin "abs") rAbs := call_abs
def rLn (K : PySem.W.Frag) : List V → Hp → VK → Prop := fun xs H Q => ∃ x n, xs = [x] ∧ LenV K x H n ∧ Q (.int n) H
theorem call_len2 : CallR X (.builtin "len") (rLn X.K) := call_len
def tTr (K : PySem.W.Frag) (ta : TE) : TT := fun σ H Q => ta σ H fun x H' => ∃ k, TruV K x H' k ∧ Q k H'
theorem pt_tr {e : Expr} {te : TE} (h : PE X e te) (he : ∀ whole, isTrue e X.env whole = (do let v ← whole; standAt e.pos; holding [v] (truthy v)) := by intro _; rfl) : PT X e (tTr X.K te) := pt_truth h he
end

/-! ### what a heap keeps -/
/-- only at l -/
def Chg (l : Addr) (H H' : Hp) : Prop := ∀ b, b ≠ l → H' b = H b
theorem same_new {H : Hp} {p : Addr} {o : HO} (h : H p = none) : Same H (upd H p o) := fun b x e => by
  rw [upd_ne (ne_of_none e h)]
  exact e
theorem chg_upd {H : Hp} {p : Addr} {o : HO} : Chg p H (upd H p o) := fun b e => by rw [upd_ne e]
theorem Chg.same {l : Addr} {H0 H H' : Hp} (c : Chg l H H') (s : Same H0 H) (n : H0 l = none) : Same H0 H' := fun b o e => by
  rw [c b (ne_of_none e n)]
  exact s b o e
theorem Chg.at {l b : Addr} {H H' : Hp} {o : HO} (c : Chg l H H') (e : H b = some o) (n : b ≠ l) : H' b = some o := by
  rw [c b n]
  exact e
theorem new_same {H : Hp} {o : HO} {Q : VK} (h : ∀ p H2, H p = none → Same H H2 → H2 p = some o → Q (.ref p) H2) : ∀ p, H p = none → Q (.ref p) (upd H p o) :=
  fun p np => h p _ np (same_new np) upd_same
theorem lst_of {K : PySem.W.Frag} {H : Hp} {a : Addr} {xs : List V} (h : H a = some (.lst xs)) : SqL K H a xs := .inl (.inl h)
theorem tup_of {K : PySem.W.Frag} {H : Hp} {a : Addr} {xs : List V} (h : H a = some (.tup xs)) : SqT K H a xs := .inl (.inl h)
theorem seqT {K : PySem.W.Frag} {H H' : Hp} {a : Addr} {xs : List V} (e : Same H H') (h : SqT K H a xs) : SqT K H' a xs := by
  rcases h with (h | ⟨o, h⟩) | h
  · exact .inl (.inl (e _ _ h))
  · exact .inl (.inr ⟨o, e _ _ h⟩)
  · exact .inr h
/-! ### steps -/
def KBl (x : V) (H : Hp) (QT : Bool → Hp → Prop) : Prop := ∃ k, x = .bl k ∧ QT k H
def KTr (K : PySem.W.Frag) (x : V) (H : Hp) (QT : Bool → Hp → Prop) : Prop := ∃ k, TruV K x H k ∧ QT k H
def KInt (x : V) (H : Hp) (QO : Option Int → Hp → Prop) : Prop := ∃ i, x = .int i ∧ QO (some i) H
def KR1 (vs : List V) (H : Hp) (R : It → Hp → Prop) : Prop := ∃ j : Int, vs = [.int j] ∧ -(2 ^ 62) ≤ j ∧ j < 2 ^ 62 ∧ R (Itr 0 j.toNat) H
def KR2 (vs : List V) (H : Hp) (R : It → Hp → Prop) : Prop := ∃ i j : Int, vs = [.int i, .int j] ∧ (-(2 ^ 62) ≤ i ∧ i < 2 ^ 62 ∧ -(2 ^ 62) ≤ j ∧ j < 2 ^ 62) ∧ R (Itr i (j - i).toNat) H
def KL (K : PySem.W.Frag) (x : V) (H : Hp) (R : It → Hp → Prop) : Prop := ∃ a, x = .ref a ∧ (∃ xs, SqL K H a xs) ∧ R (Itl K a) H
def KT (K : PySem.W.Frag) (x : V) (H : Hp) (R : It → Hp → Prop) : Prop := ∃ a, x = .ref a ∧ (∃ xs, SqT K H a xs) ∧ R (Itt K a) H
def KS (x : V) (H : Hp) (R : It → Hp → Prop) : Prop := ∃ z, x = .str z ∧ R (Its z) H
def NewO (n : Nat) (o : HO) (H : Hp) (Q : VK) : Prop := n ≤ sizeLine ∧ ∀ p, H p = none → Q (.ref p) (upd H p o)
def COut (D : Addr) (y : V) (H : Hp) (N : Hp → Prop) : Prop := ∃ acc, H D = some (.lst acc) ∧ acc.length < sizeLine ∧ N (upd H D (.lst (acc ++ [y])))
def KWh (W : Nat → L2.St → Hp → Prop) (m : Nat) (t : TS) (D : Ends) (σ : L2.St) (H : Hp) : Prop := ∃ N : L2.St → Hp → Prop, (∀ σ' H', N σ' H' → ∃ m', m' < m ∧ W m' σ' H') ∧ t ⟨N, D.rt, D.nx, N⟩ σ H
section
variable {K : PySem.W.Frag} {σ : L2.St} {H : Hp} {Q : VK} {QT : Bool → Hp → Prop} {D : Ends} {t u : TS} {c c' : TT} {te ta tb : TE} {g : TG} {v x y : V} {i : Nat} {b : Bool} {QA : List V → Hp → Prop}
theorem s_seq (h : t ⟨u D, D.rt, D.bk, D.ct⟩ σ H) : tSeq t u D σ H := h
theorem s_asg (h : te σ H fun x H1 => g x σ H1 D.nx) : tAsg te g D σ H := h
theorem g_name {QS : L2.St → Hp → Prop} (h : QS (σ.set i (some v)) H) : gName i v σ H QS := h
theorem s_ret (h : te σ H D.rt) : tRet te D σ H := h
theorem s_retN (h : D.rt .non H) : tRetN D σ H := h
theorem s_drop (h : te σ H fun _ H1 => D.nx σ H1) : tDrop te D σ H := h
theorem s_if (h : c σ H fun b H1 => if b = true then t D σ H1 else u D σ H1) : tIfS c t u D σ H := h
theorem s_next (h : D.nx σ H) : tNext D σ H := h
theorem s_brk (h : D.bk σ H) : tBreak D σ H := h
theorem s_ct (h : D.ct σ H) : tCont D σ H := h
theorem s_aug {ti : TIp} (e : σ[i]? = some (some x)) (h : te σ H fun y H1 => ti x y H1 fun z H2 => D.nx (σ.set i (some z)) H2) : tAug i te ti D σ H := ⟨x, e, h⟩
theorem i_add {i j : Int} {f : Int → Int → Int} (h : Q (.int (f i j)) H) : ipI f (.int i) (.int j) H Q := ⟨i, j, rfl, rfl, h⟩
theorem s_cut (M : L2.St → Hp → Prop) (h : t ⟨M, D.rt, D.bk, D.ct⟩ σ H) (k : ∀ σ' H', M σ' H' → u D σ' H') : C8.tCut t u D σ H := ⟨M, h, k⟩
theorem e_var (e : σ[i]? = some (some v)) (h : Q v H) : tVar i σ H Q := ⟨v, e, h⟩
theorem e_c (h : Q v H) : tC v σ H Q := h
theorem e_op {r : R2} (h : ta σ H fun x H1 => tb σ H1 fun y H2 => r x y H2 Q) : tOp r ta tb σ H Q := h
theorem e_un {r : V → Hp → VK → Prop} (h : ta σ H fun x H1 => r x H1 Q) : tUn r ta σ H Q := h
theorem o_addI {i j : Int} (h : Q (.int (i + j)) H) : rAdd3 (.int i) (.int j) H Q := .inl ⟨i, j, rfl, rfl, h⟩
theorem o_addS {i j : Str} (hz : i.length + j.length ≤ sizeLine) (h : Q (.str (i ++ j)) H) : rAdd3 (.str i) (.str j) H Q := .inr (.inl ⟨i, j, rfl, rfl, hz, h⟩)
theorem o_addL {a a' : Addr} {xs ys : List V} (ha : H a = some (.lst xs)) (hb : H a' = some (.lst ys)) (hz : xs.length + ys.length ≤ sizeLine) (h : ∀ p H2, H p = none → Same H H2 → H2 p = some (.lst (xs ++ ys)) → Q (.ref p) H2) :
    rAdd3 (.ref a) (.ref a') H Q := .inr (.inr ⟨a, a', xs, ys, rfl, rfl, ha, hb, hz, new_same h⟩)
theorem o_mulI {i j : Int} (hc : CMul i j) (h : Q (.int (i * j)) H) : rMul2 (.int i) (.int j) H Q := .inl ⟨i, j, rfl, rfl, hc, h⟩
theorem o_mulI1 {i j : Int} (h1 : -(2 ^ 64) < i) (h2 : i < 2 ^ 64) (h : Q (.int (i * j)) H) : rMul2 (.int i) (.int j) H Q := o_mulI (.inl ⟨h1, h2⟩) h
theorem o_mulI2 {i j : Int} (h1 : -(2 ^ 64) < j) (h2 : j < 2 ^ 64) (h : Q (.int (i * j)) H) : rMul2 (.int i) (.int j) H Q := o_mulI (.inr ⟨h1, h2⟩) h
theorem o_mod {f : Int → Int → V} {i j : Int} (h1 : 0 < j) (h : Q (f i j) H) : rI (fun _ j => 0 < j) f (.int i) (.int j) H Q := ⟨i, j, rfl, rfl, h1, h⟩
theorem o_fdiv {f : Int → Int → V} {i j : Int} (h1 : 0 < j) (h2 : j < 1073741824) (h : Q (f i j) H) : rI CDiv f (.int i) (.int j) H Q := ⟨i, j, rfl, rfl, ⟨h1, h2⟩, h⟩
theorem o_pow {f : Int → Int → V} {i j : Int} (h1 : 0 ≤ j) (h2 : j ≤ 1000000) (h3 : i.natAbs < 2 ^ 64) (h : Q (f i j) H) : rI CPow f (.int i) (.int j) H Q := ⟨i, j, rfl, rfl, ⟨h1, h2, h3⟩, h⟩
theorem o_mulS {z : Str} {k : Int} (h0 : 0 ≤ k) (h1 : k ≤ 1000) (h2 : z.length ≤ 1000) (h : Q (.str (repS z k)) H) : rMul2 (.str z) (.int k) H Q := .inr ⟨z, k, rfl, rfl, h0, h1, h2, h⟩
theorem o_I0 {f : Int → Int → V} {i j : Int} (h : Q (f i j) H) : rI0 f (.int i) (.int j) H Q := ⟨i, j, rfl, rfl, h⟩
theorem o_I {C : Int → Int → Prop} {f : Int → Int → V} {i j : Int} (hc : C i j) (h : Q (f i j) H) : rI C f (.int i) (.int j) H Q := ⟨i, j, rfl, rfl, hc, h⟩
theorem o_eqS (hs : scal x y = true) (h : Q (.bl (decide (x = y))) H) : rEq2 K x y H Q := .inl ⟨hs, h⟩
theorem o_neS (hs : scal x y = true) (h : Q (.bl (!decide (x = y))) H) : rNe2 K x y H Q := .inl ⟨hs, h⟩
theorem o_eqD {d e : PyData} (h1 : Dp K H x d) (h2 : Dp K H y e) (h3 : SeqAt.shaped d = true) (h4 : SeqAt.shaped e = true) (h : Q (.bl (PyData.eqv d e)) H) : rEq2 K x y H Q := .inr ⟨d, e, h1, h2, h3, h4, h⟩
theorem o_neD {d e : PyData} (h1 : Dp K H x d) (h2 : Dp K H y e) (h3 : SeqAt.shaped d = true) (h4 : SeqAt.shaped e = true) (h : Q (.bl (!PyData.eqv d e)) H) : rNe2 K x y H Q := .inr ⟨d, e, h1, h2, h3, h4, h⟩
theorem o_inS {k : Nat} {z : Str} (h : Q (.bl (decide (k ∈ z.cps.toList))) H) : rIn2 K (.str ⟨#[k]⟩) (.str z) H Q := .inl ⟨k, z, rfl, rfl, h⟩
theorem o_niS {k : Nat} {z : Str} (h : Q (.bl (!decide (k ∈ z.cps.toList))) H) : rNi2 K (.str ⟨#[k]⟩) (.str z) H Q := .inl ⟨k, z, rfl, rfl, h⟩
theorem o_inT {a : Addr} {xs : List V} (hs : SqT K H a xs) (hf : flatV x = true) (hg : xs.all flatV = true) (h : Q (.bl (inV x xs)) H) : rIn2 K x (.ref a) H Q := .inr ⟨a, xs, rfl, .inr hs, hf, hg, h⟩
theorem o_inL {a : Addr} {xs : List V} (hs : SqL K H a xs) (hf : flatV x = true) (hg : xs.all flatV = true) (h : Q (.bl (inV x xs)) H) : rIn2 K x (.ref a) H Q := .inr ⟨a, xs, rfl, .inl hs, hf, hg, h⟩
theorem o_niT {a : Addr} {xs : List V} (hs : SqT K H a xs) (hf : flatV x = true) (hg : xs.all flatV = true) (h : Q (.bl (!inV x xs)) H) : rNi2 K x (.ref a) H Q := .inr ⟨a, xs, rfl, .inr hs, hf, hg, h⟩
theorem o_niL {a : Addr} {xs : List V} (hs : SqL K H a xs) (hf : flatV x = true) (hg : xs.all flatV = true) (h : Q (.bl (!inV x xs)) H) : rNi2 K x (.ref a) H Q := .inr ⟨a, xs, rfl, .inl hs, hf, hg, h⟩
def rIsN : R2 := fun x y H Q => y = .non ∧ Q (.bl (decide (x = .non))) H
def rNtN : R2 := fun x y H Q => y = .non ∧ Q (.bl (!decide (x = .non))) H
theorem op_isN2 {X : Cx} : OpR X (compareOp .Is) rIsN := op_isN
theorem op_ntN2 {X : Cx} : OpR X (compareOp .IsNot) rNtN := op_notN
theorem o_isN (h : Q (.bl (decide (x = .non))) H) : rIsN x .non H Q := ⟨rfl, h⟩
theorem o_ntN (h : Q (.bl (!decide (x = .non))) H) : rNtN x .non H Q := ⟨rfl, h⟩
theorem o_ixL {a : Addr} {xs : List V} {j : Int} (hs : SqL K H a xs) (e : atI xs j = some v) (h : Q v H) : rIx K (.ref a) (.int j) H Q := .inl ⟨a, xs, j, v, rfl, rfl, hs, e, h⟩
theorem o_ixT {a : Addr} {xs : List V} {j : Int} (hs : SqT K H a xs) (e : atI xs j = some v) (h : Q v H) : rIx K (.ref a) (.int j) H Q := .inr (.inl ⟨a, xs, j, v, rfl, rfl, hs, e, h⟩)
theorem o_ixS {z : Str} {j : Int} {k : Nat} (hz : z.length ≤ sizeLine) (e : atI z.cps.toList j = some k) (h : Q (.str ⟨#[k]⟩) H) : rIx K (.str z) (.int j) H Q := .inr (.inr ⟨z, j, k, rfl, rfl, hz, e, h⟩)
theorem u_neg {i : Int} {f : Int → V} (h : Q (f i) H) : rU f (.int i) H Q := ⟨i, rfl, h⟩
theorem t_test (h : te σ H fun x H' => KBl x H' QT) : tTest te σ H QT := h
theorem t_b (h : te σ H fun x H' => KBl x H' QT) : tB te σ H QT := h
theorem k_bl (h : QT b H) : KBl (.bl b) H QT := ⟨b, rfl, h⟩
theorem t_tr (h : te σ H fun x H' => KTr K x H' QT) : tTr K te σ H QT := h
theorem k_trB (h : QT b H) : KTr K (.bl b) H QT := ⟨b, rfl, h⟩
theorem k_trN (h : QT false H) : KTr K .non H QT := ⟨false, rfl, h⟩
theorem k_trI {i : Int} (h : QT (i != 0) H) : KTr K (.int i) H QT := ⟨_, rfl, h⟩
theorem k_trL {a : Addr} {xs : List V} (hs : SqL K H a xs) (h : QT (!xs.isEmpty) H) : KTr K (.ref a) H QT := ⟨_, .inl ⟨xs, hs, rfl⟩, h⟩
theorem k_trT {a : Addr} {xs : List V} (hs : SqT K H a xs) (h : QT (!xs.isEmpty) H) : KTr K (.ref a) H QT := ⟨_, .inr (.inl ⟨xs, hs, rfl⟩), h⟩
theorem t_and (h : c σ H fun b H1 => if b = true then c' σ H1 QT else QT false H1) : tAnd c c' σ H QT := h
theorem t_or (h : c σ H fun b H1 => if b = true then QT true H1 else c' σ H1 QT) : tOr c c' σ H QT := h
theorem t_not (h : c σ H fun b H1 => QT (!b) H1) : tNot c σ H QT := h
theorem e_andV (h : ta σ H fun x H1 => KBl x H1 fun b H2 => if b = true then tb σ H2 Q else Q (.bl false) H2) : tAndV ta tb σ H Q := h
theorem e_orV (h : ta σ H fun x H1 => KBl x H1 fun b H2 => if b = true then Q (.bl true) H2 else tb σ H2 Q) : tOrV ta tb σ H Q := h
theorem e_notV (h : ta σ H fun x H1 => KBl x H1 fun b H2 => Q (.bl (!b)) H2) : tNotV ta σ H Q := h
theorem e_if (h : c σ H fun b H1 => if b = true then ta σ H1 Q else tb σ H1 Q) : tIf c ta tb σ H Q := h
theorem e_chain {r r' : R2} {tc : TE} (h : ta σ H fun x H1 => tb σ H1 fun y H2 => r x y H2 fun z H3 => KBl z H3 fun k H3 => if k = true then tc σ H3 fun w' H4 => r' y w' H4 Q else Q (.bl false) H3) : tChain r r' ta tb tc σ H Q := h
theorem a_nil (h : QA [] H) : tNil σ H QA := h
theorem a_cons {tr : TA} (h : te σ H fun x H1 => tr σ H1 fun xs H2 => QA (x :: xs) H2) : tCons te tr σ H QA := h
theorem c_b {r : List V → Hp → VK → Prop} {tl : TA} (h : tl σ H fun vs H1 => r vs H1 Q) : tCB r tl σ H Q := h
theorem c_call {sp : Sp} {dvs : List V} {E : XK} {tl : TA} (h : tl σ H fun vs H1 => sp (vs ++ dvs) H1 Q E) : tCall sp dvs E tl σ H Q := h
theorem b_lenS {z : Str} (hz : z.length ≤ sizeLine) (h : Q (.int z.length) H) : rLn K [.str z] H Q := ⟨_, z.length, rfl, ⟨hz, rfl⟩, h⟩
theorem b_lenL {a : Addr} {xs : List V} (hs : SqL K H a xs) (h : Q (.int xs.length) H) : rLn K [.ref a] H Q := ⟨_, xs.length, rfl, .inl ⟨xs, hs, rfl⟩, h⟩
theorem b_lenT {a : Addr} {xs : List V} (hs : SqT K H a xs) (h : Q (.int xs.length) H) : rLn K [.ref a] H Q := ⟨_, xs.length, rfl, .inr ⟨xs, hs, rfl⟩, h⟩
theorem b_int {i : Int} (h : Q (.int i) H) : rInt [.int i] H Q := .inl (.inl ⟨i, rfl, h⟩)
theorem b_intB (h : Q (.int (if b then 1 else 0)) H) : rInt [.bl b] H Q := .inl (.inr ⟨b, rfl, h⟩)
theorem b_intS {z : Str} {n : Int} (e : PySem.intText? z = some n) (hl : z.length ≤ 640) (h : Q (.int n) H) : rInt [.str z] H Q := .inr ⟨z, n, rfl, e, hl, h⟩
theorem b_abs {i : Int} (h : Q (.int (if i < 0 then -i else i)) H) : rAbs [.int i] H Q := ⟨i, rfl, h⟩
theorem b_isi {n : String} {x : V} {tv : Value} (ty : TyX K H x tv) (h : PySem.W.kitOne K tv (.type n) = some b) (q : Q (.bl b) H) : rIsi K [x, .ty n] H Q := ⟨x, .ty n, tv, .type n, b, rfl, .ty n, ty, h, q⟩
theorem e_tup {tl : TA} (h : tl σ H fun xs H1 => NewO xs.length (.tup xs) H1 Q) : tTup tl σ H Q := h
theorem e_lst {tl : TA} (h : tl σ H fun xs H1 => NewO xs.length (.lst xs) H1 Q) : tLst tl σ H Q := h
theorem n_obj {n : Nat} {o : HO} (hz : n ≤ sizeLine) (h : ∀ p H2, H p = none → Same H H2 → H2 p = some o → Q (.ref p) H2) : NewO n o H Q := ⟨hz, new_same h⟩
theorem e_sl {r : V → Option Int → Option Int → Hp → VK → Prop} {tl th : TO} (h : te σ H fun x H1 => tl σ H1 fun l H2 => th σ H2 fun u H3 => r x l u H3 Q) : tSl r te tl th σ H Q := h
theorem p_no {QO : Option Int → Hp → Prop} (h : QO none H) : tNoPart σ H QO := h
theorem p_so {QO : Option Int → Hp → Prop} (h : te σ H fun x H1 => KInt x H1 QO) : tPart te σ H QO := h
theorem k_int {i : Int} {QO : Option Int → Hp → Prop} (h : QO (some i) H) : KInt (.int i) H QO := ⟨i, rfl, h⟩
theorem l_S {z : Str} {lo hi : Option Int} (hz : z.length ≤ sizeLine) (h : Q (.str (cutS z lo hi)) H) : rSl2 K (.str z) lo hi H Q := .inl ⟨z, rfl, hz, h⟩
theorem l_L {a : Addr} {xs : List V} {lo hi : Option Int} (hs : SqL K H a xs) (h : ∀ p H2, H p = none → Same H H2 → H2 p = some (.lst (cutV xs lo hi)) → Q (.ref p) H2) : rSl2 K (.ref a) lo hi H Q := .inr ⟨a, xs, rfl, hs, new_same h⟩
/-- o.m(..), m of a built-in type -/
theorem m_bm {T : String} {r : V → List V → Hp → VK → Prop} {tl : TA} (h : te σ H fun x H1 => tyV K T x H1 ∧ tl σ H1 fun xs H2 => r x xs H2 Q) : tBM K T r te tl σ H Q := h
theorem m_ty {a : Addr} {xs : List V} {P : Prop} (hs : SqL K H a xs) (h : P) : tyV K "list" (.ref a) H ∧ P := ⟨.inl ⟨rfl, xs, hs⟩, h⟩
theorem m_app {a : Addr} {xs : List V} (e : H a = some (.lst xs)) (hz : xs.length < sizeLine) (h : ∀ H2, Chg a H H2 → H2 a = some (.lst (xs ++ [y])) → Q .non H2) : rAppend (.ref a) [y] H Q := ⟨a, xs, y, rfl, rfl, e, hz, h _ chg_upd upd_same⟩
theorem g_sub {to ti : TE} {ts : TSet} {QS : L2.St → Hp → Prop} (h : to σ H fun o H1 => ti σ H1 fun i H2 => ts o i v H2 fun H3 => QS σ H3) : gSub to ti ts v σ H QS := h
theorem st_L {a : Addr} {xs : List V} {k : Int} {j : Nat} {QH : Hp → Prop} (e : H a = some (.lst xs)) (hj : ixN xs.length k = some j) (h : ∀ H2, Chg a H H2 → H2 a = some (.lst (xs.set j v)) → QH H2) : rSetL (.ref a) (.int k) v H QH := ⟨a, xs, k, j, rfl, rfl, e, hj, h _ chg_upd upd_same⟩
theorem m_m1 {r : V → List V → Hp → VK → Prop} (h : te σ H fun x H1 => (∃ a, x = .str a) ∧ ta σ H1 fun y H2 => r x [y] H2 Q) : tM1 r te ta σ H Q := h
theorem m_st {z : Str} {P : Prop} (h : P) : (∃ a, V.str z = .str a) ∧ P := ⟨⟨z, rfl⟩, h⟩
def rJoin (K : PySem.W.Frag) : V → List V → Hp → VK → Prop := fun x xs H Q => ∃ a p, ∃ ys : List Str, x = .str a ∧ xs = [.ref p] ∧ (SqL K H p (ys.map V.str) ∨ SqT K H p (ys.map V.str)) ∧
  (ys.map (·.length)).sum + ys.length * a.length ≤ 16777216 ∧ Q (.str (Txt.join a ys)) H
theorem pe_join2 {X : Cx} {o e : Expr} {to te : TE} {apos pos : Pos} (ho : PE X o to) (he : PE X e te) (hs : starEach [e] X.env = [(false, eval e X.env)] := by rfl) (hbase : attributeBase o "join" X.env (eval o X.env) = eval o X.env := by rfl) (hline : (apos.endLine == pos.line) = true := by rfl) :
    PE X (.Call (.Attribute o "join" apos) [e] [] pos) (tM1 (rJoin X.K) to te) := pe_join ho he hs hbase hline
theorem m_join {z : Str} {a : Addr} {ys : List Str} (hs : SqL K H a (ys.map V.str)) (hz : (ys.map (·.length)).sum + ys.length * z.length ≤ 16777216) (h : Q (.str (Txt.join z ys)) H) : rJoin K (.str z) [.ref a] H Q := ⟨z, a, ys, rfl, rfl, .inl hs, hz, h⟩
/-! ### loops -/
def LoopF (J : It) (g : TG) (tb : TS) (D : Ends) (σ : L2.St) (H : Hp) : Prop := ∃ W : Nat → Nat → L2.St → Hp → Prop, (∃ m, W 0 m σ H) ∧ ∀ i m σ H, W i m σ H →
  (J.stop i H ∧ D.nx σ H) ∨ (J.go i H ∧ ∃ N : L2.St → Hp → Prop, (∀ σ' H', N σ' H' → ∃ m', m' < m ∧ W (i + 1) m' σ' H') ∧ ∀ x H', J.yld i H x H' → g x σ H' fun σ2 H2 => tb { D with nx := N, ct := N, bk := D.nx } σ2 H2)
theorem s_for {wi : TI} (h : wi σ H fun J H1 => LoopF J g t D σ H1) : tFor wi g t D σ H := h
def LoopC (J : It) (g : TG) (tt : TT) (te : TE) (vs : List Nat) (σ : L2.St) (H1 : Hp) (Q : VK) : Prop := ∀ D, H1 D = none → ∃ W : Nat → Nat → Hp → Prop, (∃ m, W 0 m (upd H1 D (.lst []))) ∧ ∀ i m H, W i m H →
  (J.stop i H ∧ Q (.ref D) H) ∨ (J.go i H ∧ ∃ Nx : Hp → Prop, (∀ H', Nx H' → ∃ m', m' < m ∧ W (i + 1) m' H') ∧ ∀ x H', J.yld i H x H' → g x (wipe σ vs) H' fun σ2 H2 => wipe σ2 vs = wipe σ vs ∧ tt σ2 H2 fun b H3 =>
    if b = true then te σ2 H3 fun y H4 => ∃ acc, H4 D = some (.lst acc) ∧ acc.length < sizeLine ∧ Nx (upd H4 D (.lst (acc ++ [y]))) else Nx H3)
theorem e_lc {wi : TI} {tt : TT} {vs : List Nat} (h : wi σ H fun J H1 => LoopC J g tt te vs σ H1 Q) : tLc wi g tt te vs σ H Q := h
theorem t_yes (h : QT true H) : tYes σ H QT := h
theorem w_r1 {tl : TA} {R : It → Hp → Prop} (h : tl σ H fun vs H1 => KR1 vs H1 R) : iRng1 tl σ H R := h
theorem w_r2 {tl : TA} {R : It → Hp → Prop} (h : tl σ H fun vs H1 => KR2 vs H1 R) : iRng2 tl σ H R := h
theorem k_r1 {j : Int} {R : It → Hp → Prop} (h1 : -(2 ^ 62) ≤ j) (h2 : j < 2 ^ 62) (h : R (Itr 0 j.toNat) H) : KR1 [.int j] H R := ⟨j, rfl, h1, h2, h⟩
theorem k_r2 {i j : Int} {R : It → Hp → Prop} (h1 : -(2 ^ 62) ≤ i ∧ i < 2 ^ 62 ∧ -(2 ^ 62) ≤ j ∧ j < 2 ^ 62) (h : R (Itr i (j - i).toNat) H) : KR2 [.int i, .int j] H R := ⟨i, j, rfl, h1, h⟩
theorem w_l {R : It → Hp → Prop} (h : te σ H fun x H1 => KL K x H1 R) : iList K te σ H R := h
theorem k_l {a : Addr} {xs : List V} {R : It → Hp → Prop} (hs : SqL K H a xs) (h : R (Itl K a) H) : KL K (.ref a) H R := ⟨a, rfl, ⟨xs, hs⟩, h⟩
theorem w_t {R : It → Hp → Prop} (h : te σ H fun x H1 => KT K x H1 R) : iTup K te σ H R := h
theorem k_t {a : Addr} {xs : List V} {R : It → Hp → Prop} (hs : SqT K H a xs) (h : R (Itt K a) H) : KT K (.ref a) H R := ⟨a, rfl, ⟨xs, hs⟩, h⟩
theorem f_range {lo : Int} {n : Nat} (Pv : Nat → L2.St → Hp → Prop) (h0 : Pv 0 σ H)
    (hs : ∀ i σ H, i < n → Pv i σ H → g (.int (lo + i)) σ H fun σ2 H2 => t ⟨Pv (i + 1), D.rt, D.nx, Pv (i + 1)⟩ σ2 H2) (hd : ∀ σ H, Pv n σ H → D.nx σ H) : LoopF (Itr lo n) g t D σ H := for_range Pv h0 hs hd
theorem f_list {a : Addr} {xs : List V} (Pv : Nat → L2.St → Hp → Prop) (h0 : Pv 0 σ H) (hl : ∀ i σ H, i ≤ xs.length → Pv i σ H → SqL K H a xs)
    (hs : ∀ i x σ H, xs[i]? = some x → Pv i σ H → g x σ H fun σ2 H2 => t ⟨Pv (i + 1), D.rt, D.nx, Pv (i + 1)⟩ σ2 H2) (hd : ∀ σ H, Pv xs.length σ H → D.nx σ H) : LoopF (Itl K a) g t D σ H := for_list Pv h0 hl hs hd
theorem f_tup {a : Addr} {xs : List V} (Pv : Nat → L2.St → Hp → Prop) (h0 : Pv 0 σ H) (hl : ∀ i σ H, i ≤ xs.length → Pv i σ H → SqT K H a xs)
    (hs : ∀ i x σ H, xs[i]? = some x → Pv i σ H → g x σ H fun σ2 H2 => t ⟨Pv (i + 1), D.rt, D.nx, Pv (i + 1)⟩ σ2 H2) (hd : ∀ σ H, Pv xs.length σ H → D.nx σ H) : LoopF (Itt K a) g t D σ H := for_tup Pv h0 hl hs hd
/-- a text, sign by sign -/
theorem w_s {R : It → Hp → Prop} (h : te σ H fun x H1 => KS x H1 R) : iStr te σ H R := h
theorem k_s {z : Str} {R : It → Hp → Prop} (h : R (Its z) H) : KS (.str z) H R := ⟨z, rfl, h⟩
theorem f_str {z : Str} (Pv : Nat → L2.St → Hp → Prop) (h0 : Pv 0 σ H)
    (hs : ∀ i k σ H, z.cps.toList[i]? = some k → Pv i σ H → g (.str ⟨#[k]⟩) σ H fun σ2 H2 => t ⟨Pv (i + 1), D.rt, D.nx, Pv (i + 1)⟩ σ2 H2) (hd : ∀ σ H, Pv z.cps.toList.length σ H → D.nx σ H) : LoopF (Its z) g t D σ H := by
  refine ⟨fun i m σ H => m = z.cps.toList.length - i ∧ i ≤ z.cps.toList.length ∧ Pv i σ H, ⟨_, rfl, Nat.zero_le _, h0⟩, ?_⟩
  rintro i m σ H ⟨rfl, hi, p⟩
  by_cases hlt : i < z.cps.toList.length
  · refine .inr ⟨show i < z.cps.size by simpa using hlt, Pv (i + 1), fun σ' H' p' => ⟨z.cps.toList.length - (i + 1), by omega, rfl, hlt, p'⟩, fun x H' y => ?_⟩
    obtain ⟨rfl, k, e, rfl⟩ := y
    exact hs i k σ _ (by simpa using e) p
  · have e : i = z.cps.toList.length := by omega
    subst e
    exact .inl ⟨by simp [Its], hd σ H p⟩
theorem c_range {lo : Int} {n : Nat} {vs : List Nat} {tt : TT} (Pv : Addr → Nat → Hp → Prop) (h0 : ∀ D H1, H D = none → Same H H1 → H1 D = some (.lst []) → Pv D 0 H1)
    (hs : ∀ D i H1, i < n → H D = none → Pv D i H1 → g (.int (lo + i)) (wipe σ vs) H1 fun σ2 H2 => wipe σ2 vs = wipe σ vs ∧ tt σ2 H2 fun b H3 =>
      if b = true then te σ2 H3 fun y H4 => COut D y H4 (Pv D (i + 1)) else Pv D (i + 1) H3) (hd : ∀ D H1, H D = none → Pv D n H1 → Q (.ref D) H1) :
    LoopC (Itr lo n) g tt te vs σ H Q := fun D nD => lc_range (Pv D) (h0 D _ nD (same_new nD) upd_same) (fun i H1 hi p => hs D i H1 hi nD p) fun H1 p => hd D H1 nD p
theorem c_list {a : Addr} {xs : List V} {vs : List Nat} {tt : TT} (Pv : Addr → Nat → Hp → Prop) (h0 : ∀ D H1, H D = none → Same H H1 → H1 D = some (.lst []) → Pv D 0 H1) (hl : ∀ D i H1, i ≤ xs.length → H D = none → Pv D i H1 → SqL K H1 a xs)
    (hs : ∀ D i x H1, xs[i]? = some x → H D = none → Pv D i H1 → g x (wipe σ vs) H1 fun σ2 H2 => wipe σ2 vs = wipe σ vs ∧ tt σ2 H2 fun b H3 =>
      if b = true then te σ2 H3 fun y H4 => COut D y H4 (Pv D (i + 1)) else Pv D (i + 1) H3) (hd : ∀ D H1, H D = none → Pv D xs.length H1 → Q (.ref D) H1) :
    LoopC (Itl K a) g tt te vs σ H Q := fun D nD => lc_list (Pv D) (h0 D _ nD (same_new nD) upd_same) (fun i H1 hi p => hl D i H1 hi nD p) (fun i x H1 hi p => hs D i x H1 hi nD p) fun H1 p => hd D H1 nD p
theorem c_out {D : Addr} {acc : List V} {N : Hp → Prop} (e : H D = some (.lst acc)) (hz : acc.length < sizeLine) (h : ∀ H2, Chg D H H2 → H2 D = some (.lst (acc ++ [y])) → N H2) : COut D y H N := ⟨acc, e, hz, h _ chg_upd upd_same⟩
theorem s_while (W : Nat → L2.St → Hp → Prop) (m0 : Nat) (h0 : W m0 σ H) (hs : ∀ m σ H, W m σ H → c σ H fun b H1 => if b = true then KWh W m t D σ H1 else D.nx σ H1) : tWhile c t D σ H := ⟨W, ⟨m0, h0⟩, hs⟩
theorem k_while {W : Nat → L2.St → Hp → Prop} {m : Nat} (h : t ⟨fun σ' H' => ∃ m', m' < m ∧ W m' σ' H', D.rt, D.nx, fun σ' H' => ∃ m', m' < m ∧ W m' σ' H'⟩ σ H) : KWh W m t D σ H := ⟨_, fun _ _ q => q, h⟩
end
/-! ### a def of the top -/
structure DefOk (K : PySem.W.Frag) (mg : Str → Option Value) (x : Str) (st : Stmt) : Prop where
  ex : ∃ f fd, FunD K x x (defArgs st) (defBody st) (defScope st) [] [] f fd ∧ mg x = some (.ref f)
theorem cal_of {P : Program} {w : World} {K : PySem.W.Frag} {mg : Str → Option Value} {base : Heap} {x : Str} {st : Stmt} {N ps : List Str} {k : Nat} {sp : Sp} (F : DefOk K mg x st) (S : FnScope N ps (defScope st))
    (hb : ∀ f fd, FunD K x x (defArgs st) (defBody st) (defScope st) [] [] f fd → Binds K fd ps []) (len : ∀ vs H Q E, sp vs H Q E → vs.length = ps.length)
    (body : ∀ (f : Addr) (cdv : Value) (A : Around) (outer : List Env) (s : Shared) (H : Hp) (vs : List V) (Q : VK) (E : XK), Room k (A.deeper (envOfC x (defScope st) s.heap.objs.size f cdv)) → sp vs H Q E →
      ∃ t, PSs (cxOf CX0 P w K mg base N x (defScope st) f cdv A outer s H E).nox (defBody st) t ∧ t { nx := fun _ H' => Q .non H', rt := Q } (start N vs) H) : C8.Cal P w K mg base (k + 1) x sp [] := by
  obtain ⟨f, fd, F, hm⟩ := F.ex
  refine ⟨f, fd, ps, [], F.ok S len fun cdv A outer s H vs Q E hr h => ?_, hm, F.kp, hb f fd F, .nil⟩
  obtain ⟨t, h1, h2⟩ := body f cdv A outer s H vs Q E hr h
  exact ⟨t, PSs.nox h1, h2⟩
/-! ### calls without arguments -/
section
variable {X : Cx} {k j : Nat} {x : Str} {sp : Sp} {dvs : List V} {p pos : Pos}
theorem pe_c0 (c : C8.Cal X.prog X.w X.K X.mg X.base k x sp dvs) (hr : Room j X.A) (hk : k ≤ j) (hg : Gl X x) (hdb : (x == ("__debug__" : Str)) = false := by decide) :
    PE X (.Call (.Name x p) [] [] pos) (tCall sp dvs C8.E0 tNil) := by
  obtain ⟨f, fd, ps, ds, F, hm, kp, b, d⟩ := c.ex
  exact pe_call0 F (hr.mono hk) hg hm kp b d pass0 hdb
end
/-! ### a law's own hand of draws -/
def HandAt (H : Hp) (h d : Addr) : Prop := ∃ (n : Int) (ds : List Int), H h = some (.lst [.ref d, .int n]) ∧ 0 ≤ n ∧ H d = some (.lst (ds.map V.int))
/-- a draw below many -/
def spTake : Sp := fun vs H Q _ => ∃ (h d : Addr) (m : Int), vs = [.ref h, .int m] ∧ HandAt H h d ∧ 0 < m ∧ ∀ r H', 0 ≤ r → r < m → Chg h H H' → HandAt H' h d → Q (.int r) H'
theorem HandAt.ne {H : Hp} {h d : Addr} (x : HandAt H h d) : d ≠ h := by
  obtain ⟨n, ds, h1, h2, h3⟩ := x
  intro e
  subst e
  rw [h1] at h3
  cases ds <;> cases h3
theorem HandAt.same {H H' : Hp} {h d : Addr} (s : Same H H') (x : HandAt H h d) : HandAt H' h d := by
  obtain ⟨n, ds, h1, h2, h3⟩ := x
  exact ⟨n, ds, s _ _ h1, h2, s _ _ h3⟩
theorem HandAt.chg {H H' : Hp} {h d D : Addr} (c : Chg D H H') (x : HandAt H h d) (n1 : h ≠ D) (n2 : d ≠ D) : HandAt H' h d := by
  obtain ⟨n, ds, h1, h2, h3⟩ := x
  exact ⟨n, ds, c.at h1 n1, h2, c.at h3 n2⟩
theorem HandAt.new {H : Hp} {h d D : Addr} (x : HandAt H h d) (n : H D = none) : h ≠ D ∧ d ≠ D := by
  obtain ⟨_, ds, h1, h2, h3⟩ := x
  exact ⟨ne_of_none h1 n, ne_of_none h3 n⟩
/-- all but h is kept -/
def Keep (h : Addr) (H H' : Hp) : Prop := ∀ b o, b ≠ h → H b = some o → H' b = some o
theorem Keep.refl (h : Addr) (H : Hp) : Keep h H H := fun _ _ _ e => e
theorem Keep.trans {h : Addr} {H H1 H2 : Hp} (a : Keep h H H1) (b : Keep h H1 H2) : Keep h H H2 := fun c o n e => b c o n (a c o n e)
theorem Chg.keep {h : Addr} {H H' : Hp} (c : Chg h H H') : Keep h H H' := fun b o n e => c.at e n
theorem _root_.L2.Same.keep {h : Addr} {H H' : Hp} (c : Same H H') : Keep h H H' := fun b o _ e => c b o e
theorem Keep.chg {h D : Addr} {H H1 H2 : Hp} (k : Keep h H H1) (c : Chg D H1 H2) (n : H D = none) : Keep h H H2 := fun b o m e => c.at (k b o m e) (ne_of_none e n)
theorem Keep.free {h D : Addr} {H H1 : Hp} (k : Keep h H H1) (n : H1 D = none) (m : D ≠ h) : H D = none := by
  cases q : H D with
  | none => rfl
  | some o =>
    rw [k D o m q] at n
    cases n
theorem Keep.at {h b : Addr} {H H' : Hp} {o : HO} (c : Keep h H H') (e : H b = some o) (n : b ≠ h) : H' b = some o := c b o n e
theorem atI_of {α : Type} {xs : List α} {i : Int} {j : Nat} {v : α} (e : i = (j : Int)) (h : xs[j]? = some v) : atI xs i = some v := by
  subst e
  exact atI_nat h
/-! ### texts -/
theorem joinL_nil : ∀ ps : List (List Nat), TL.joinL [] ps = ps.flatten
  | [] => rfl
  | [p] => by simp [TL.joinL]
  | p :: q :: r => by
    show p ++ ([] ++ TL.joinL [] (q :: r)) = _
    rw [joinL_nil (q :: r)]
    simp
theorem join_empty (ys : List Str) : (Txt.join (Str.ofString "") ys).cps.toList = (ys.map fun y => y.cps.toList).flatten := by
  rw [TL.join_eq]
  have h := TL.tl_join (Str.ofString "") ys
  have e : TL.tl (Str.ofString "") = [] := by decide +kernel
  rw [e, joinL_nil] at h
  exact h
theorem str_len (z : Str) : z.length = z.cps.toList.length := by simp [Str.length]
theorem str_ext {x y : Str} (h : x.cps.toList = y.cps.toList) : x = y := by
  obtain ⟨a⟩ := x
  obtain ⟨b⟩ := y
  have e : a = b := Array.ext' h
  rw [e]
theorem app_len (x y : Str) : (x ++ y).length = x.length + y.length := by
  show (x.cps ++ y.cps).size = x.cps.size + y.cps.size
  simp
theorem app_tl (x y : Str) : (x ++ y).cps.toList = x.cps.toList ++ y.cps.toList := by
  show (x.cps ++ y.cps).toList = x.cps.toList ++ y.cps.toList
  simp
theorem repS_len (z : Str) (k : Int) : (repS z k).length = k.toNat * z.length := by
  unfold repS
  simp [Str.length, List.length_flatten, List.map_replicate, List.sum_replicate_nat]
theorem cutS_nat (z : Str) {i j : Nat} (hi : i ≤ z.length) (hj : j ≤ z.length) : (cutS z (some (i : Int)) (some (j : Int))).cps.toList = (z.cps.toList.drop i).take (j - i) := by
  unfold cutS
  rw [HT.sIx_nat, HT.sIx_nat, Nat.min_eq_left hi, Nat.min_eq_left hj]
theorem cutS_len2 (z : Str) (i : Nat) : (cutS z (some (i : Int)) (some ((i + 2 : Nat) : Int))).length = min (i + 2) z.length - min i z.length := by
  unfold cutS
  rw [HT.sIx_nat, HT.sIx_nat]
  show ((((z.cps.toList.drop (min i z.length)).take (min (i + 2) z.length - min i z.length)).toArray).size) = _
  rw [List.size_toArray, List.length_take, List.length_drop, Array.length_toList]
  show min _ (z.length - _) = _
  omega
/-- the place behind the longest run from i of signs in p -/
def runEnd (cs p : List Nat) (i : Nat) : Nat := i + ((cs.drop i).takeWhile fun c => decide (c ∈ p)).length
theorem runEnd_out {cs p : List Nat} {i : Nat} (h : cs.length ≤ i) : runEnd cs p i = i := by
  unfold runEnd
  rw [List.drop_of_length_le h]
  rfl
theorem runEnd_no {cs p : List Nat} {i c : Nat} (e : cs[i]? = some c) (h : c ∉ p) : runEnd cs p i = i := by
  unfold runEnd
  have hi : i < cs.length := (List.getElem?_eq_some_iff.mp e).1
  rw [List.drop_eq_getElem_cons hi, (List.getElem?_eq_some_iff.mp e).2, List.takeWhile_cons_of_neg (by simpa using h)]
  rfl
theorem runEnd_yes {cs p : List Nat} {i c : Nat} (e : cs[i]? = some c) (h : c ∈ p) : runEnd cs p i = runEnd cs p (i + 1) := by
  unfold runEnd
  have hi : i < cs.length := (List.getElem?_eq_some_iff.mp e).1
  rw [List.drop_eq_getElem_cons hi, (List.getElem?_eq_some_iff.mp e).2, List.takeWhile_cons_of_pos (by simpa using h), List.length_cons]
  omega
theorem runEnd_ge (cs p : List Nat) (i : Nat) : i ≤ runEnd cs p i := Nat.le_add_right _ _
theorem runEnd_le {cs p : List Nat} {i : Nat} (h : i ≤ cs.length) : runEnd cs p i ≤ cs.length := by
  unfold runEnd
  have h1 := (List.takeWhile_prefix (fun c => decide (c ∈ p)) (l := cs.drop i)).length_le
  rw [List.length_drop] at h1
  omega
theorem runEnd_all {cs p : List Nat} : runEnd cs p 0 = cs.length ↔ ∀ c ∈ cs, c ∈ p := by
  unfold runEnd
  rw [List.drop_zero, Nat.zero_add]
  induction cs with
  | nil => simp
  | cons a r ih =>
    by_cases h : a ∈ p
    · rw [List.takeWhile_cons_of_pos (by simpa using h), List.length_cons, List.length_cons, Nat.add_right_cancel_iff, ih]
      simp [h]
    · rw [List.takeWhile_cons_of_neg (by simpa using h)]
      simp [h]
theorem atI_cps {z : Str} {i : Nat} (h : i < z.length) : ∃ c, z.cps.toList[i]? = some c ∧ atI z.cps.toList (i : Int) = some c := by
  have h1 : i < z.cps.toList.length := by rw [← str_len]; exact h
  exact ⟨_, List.getElem?_eq_getElem h1, atI_nat (List.getElem?_eq_getElem h1)⟩
theorem small1000' {n : Nat} (h : n ≤ 100000) : n < sizeLine := Nat.lt_of_le_of_lt h (by decide)
theorem ixN_nat {n j : Nat} (h : j < n) : ixN n (j : Int) = some j := by
  unfold ixN
  rw [if_pos (by omega), if_pos (by omega)]
  simp
/-- one sign, compared -/
theorem sign_eq {c k : Nat} {y : Str} (hy : y = ⟨#[k]⟩) : decide (V.str ⟨#[c]⟩ = V.str y) = true ↔ c = k := by
  rw [decide_eq_true_iff, hy]
  constructor
  · intro e
    injection e with e
    injection e with e
    have e2 := congrArg Array.toList e
    simpa using e2
  · intro e
    rw [e]
theorem snoc_int {H : Hp} {d : Addr} {ds : List Int} {v : Int} (e : H d = some (.lst (ds.map V.int ++ [.int v]))) : ∃ ds' : List Int, H d = some (.lst (ds'.map V.int)) ∧ ds'.length = ds.length + 1 :=
  ⟨ds ++ [v], by rw [e, List.map_append]; rfl, by rw [List.length_append]; rfl⟩
/-- the items are texts of at most m signs -/
def strsB (m : Nat) (xs : List V) : Bool := xs.all fun x => match x with | .str y => decide (y.length ≤ m) | _ => false
theorem item_str (xs : List V) {m : Nat} (h : strsB m xs = true) {j : Nat} (hj : j < xs.length) : ∃ y : Str, xs[j]? = some (.str y) ∧ y.length ≤ m := by
  have h1 := List.all_eq_true.mp h xs[j] (List.getElem_mem hj)
  cases e : xs[j] with
  | str y =>
    rw [e] at h1
    exact ⟨y, by rw [List.getElem?_eq_getElem hj, e], of_decide_eq_true h1⟩
  | _ =>
    rw [e] at h1
    cases h1
theorem fn_of2 {P : Program} {w : World} {K : PySem.W.Frag} {mg : Str → Option Value} {base : Heap} {x : Str} {st : Stmt} {N ps : List Str} {k : Nat} {sp : Sp} {f : Addr} {fd : FuncData} (F : FunD K x x (defArgs st) (defBody st) (defScope st) [] [] f fd) (S : FnScope N ps (defScope st))
    (len : ∀ vs H Q E, sp vs H Q E → vs.length = ps.length)
    (body : ∀ (f : Addr) (cdv : Value) (A : Around) (outer : List Env) (s : Shared) (H : Hp) (vs : List V) (Q : VK) (E : XK), Room k (A.deeper (envOfC x (defScope st) s.heap.objs.size f cdv)) → sp vs H Q E →
      ∃ t, PSs (cxOf CX0 P w K mg base N x (defScope st) f cdv A outer s H E).nox (defBody st) t ∧ t { nx := fun _ H' => Q .non H', rt := Q } (start N vs) H) : FnOk P w K mg base CX0 (k + 1) f fd ps sp :=
  F.ok S len fun cdv A outer s H vs Q E hr h => by
    obtain ⟨t, h1, h2⟩ := body f cdv A outer s H vs Q E hr h
    exact ⟨t, PSs.nox h1, h2⟩
theorem lz {n : Nat} (h : n ≤ 1000) : n ≤ sizeLine := Nat.le_of_lt (small1000 h)
/-! ### more steps -/
def rStrI : List V → Hp → VK → Prop := fun xs H Q => ∃ i, xs = [.int i] ∧ i.natAbs.log2 < 1920 ∧ Q (.str (toString i)) H
theorem call_strI {X : Cx} : CallR X (.type "str") rStrI := call_str_int
def rLst (K : PySem.W.Frag) : List V → Hp → VK → Prop := fun xs H Q => ∃ p ys, xs = [.ref p] ∧ (SqL K H p ys ∨ SqT K H p ys) ∧ ∀ l, H l = none → Q (.ref l) (upd H l (.lst ys))
theorem call_lst {X : Cx} : CallR X (.type "list") (rLst X.K) := call_list_of
def rTpl (K : PySem.W.Frag) : List V → Hp → VK → Prop := fun xs H Q => ∃ p ys, xs = [.ref p] ∧ SqL K H p ys ∧ ∀ l, H l = none → Q (.ref l) (upd H l (.tup ys))
theorem log_small {n : Nat} (h : n < 10 ^ 40) : n.log2 < 1920 := by
  by_cases h0 : n = 0
  · subst h0
    decide
  · rw [Nat.log2_lt h0]
    exact Nat.lt_of_lt_of_le h (by decide +kernel)
def tJoined (ts : List TE) : TE := fun σ H Q => tJs ts Str.empty σ H fun out H1 => Q (.str out) H1
theorem pe_joined2 {X : Cx} {v1 v2 : Expr} {rest : List Expr} {ts : List TE} {pos : Pos} (h : PJ X (v1 :: v2 :: rest) ts) : PE X (.JoinedStr (v1 :: v2 :: rest) pos) (tJoined ts) := pe_joined h
def KJ (x : V) (acc : Str) (ts : List TE) (σ : L2.St) (H : Hp) (Q : Str → Hp → Prop) : Prop := ∃ y : Str, x = .str y ∧ (acc ++ y).length ≤ sizeLine ∧ tJs ts (acc ++ y) σ H Q
def KF (x : V) (H : Hp) (Q : VK) : Prop := (∃ y : Str, x = .str y ∧ y.length ≤ sizeLine ∧ Q (.str y) H) ∨ ∃ i : Int, x = .int i ∧ i.natAbs.log2 < 1920 ∧ Q (.str (toString i)) H
section
variable {K : PySem.W.Frag} {σ : L2.St} {H : Hp} {Q : VK} {QS : L2.St → Hp → Prop} {QJ : Str → Hp → Prop} {te : TE} {ts : List TE} {v : V} {g : TG}
theorem g_tup {u : TGs} {a : Addr} {xs : List V} {n : Nat} (hs : SqT K H a xs) (hl : xs.length = n) (h : u xs σ H QS) : gTup K n u (.ref a) σ H QS := ⟨a, xs, rfl, hs, hl, h⟩
theorem g_cons {u : TGs} {r : List V} (h : g v σ H fun σ' H' => u r σ' H' QS) : gCons g u (v :: r) σ H QS := ⟨v, r, rfl, h⟩
theorem g_nil (h : QS σ H) : gNil [] σ H QS := ⟨rfl, h⟩
theorem b_strI {i : Int} (hz : i.natAbs < 10 ^ 40) (h : Q (.str (toString i)) H) : rStrI [.int i] H Q := ⟨i, rfl, log_small hz, h⟩
theorem b_lst {a : Addr} {xs : List V} (hs : SqL K H a xs) (h : ∀ p H2, H p = none → Same H H2 → H2 p = some (.lst xs) → Q (.ref p) H2) : rLst K [.ref a] H Q := ⟨a, xs, rfl, .inl hs, new_same h⟩
theorem e_joined (h : tJs ts Str.empty σ H fun out H1 => Q (.str out) H1) : tJoined ts σ H Q := h
theorem j_nil {acc : Str} (h : QJ acc H) : tJs [] acc σ H QJ := h
theorem j_cons {acc : Str} (h : te σ H fun x H1 => KJ x acc ts σ H1 QJ) : tJs (te :: ts) acc σ H QJ := h
theorem k_j {acc y : Str} (hz : (acc ++ y).length ≤ sizeLine) (h : tJs ts (acc ++ y) σ H QJ) : KJ (.str y) acc ts σ H QJ := ⟨y, rfl, hz, h⟩
theorem e_fmt (h : te σ H fun x H1 => KF x H1 Q) : tFmt te σ H Q := h
theorem k_fS {y : Str} (hz : y.length ≤ sizeLine) (h : Q (.str y) H) : KF (.str y) H Q := .inl ⟨y, rfl, hz, h⟩
theorem k_fI {i : Int} (hz : i.natAbs < 10 ^ 40) (h : Q (.str (toString i)) H) : KF (.int i) H Q := .inr ⟨i, rfl, log_small hz, h⟩
end
/-! ### data of tuples -/
mutual
inductive Tp (H : Hp) : V → PyData → Prop
  | non : Tp H .non .none
  | bl (b : Bool) : Tp H (.bl b) (.bool b)
  | int (i : Int) : Tp H (.int i) (.int i)
  | str (x : Str) : Tp H (.str x) (.str x)
  | tup {a : Addr} {xs : List V} {ds : List PyData} : H a = some (.tup xs) → TpAll H xs ds → Tp H (.ref a) (.tuple ds)
inductive TpAll (H : Hp) : List V → List PyData → Prop
  | nil : TpAll H [] []
  | cons {v : V} {vs : List V} {d : PyData} {ds : List PyData} : Tp H v d → TpAll H vs ds → TpAll H (v :: vs) (d :: ds)
end
/-- the tuples stay -/
def TK (H H' : Hp) : Prop := ∀ a xs, H a = some (.tup xs) → H' a = some (.tup xs)
theorem TK.refl (H : Hp) : TK H H := fun _ _ e => e
theorem TK.trans {H H1 H2 : Hp} (a : TK H H1) (b : TK H1 H2) : TK H H2 := fun c xs e => b c xs (a c xs e)
theorem _root_.L2.Same.tk {H H' : Hp} (s : Same H H') : TK H H' := fun a xs e => s a _ e
theorem Chg.tk {l : Addr} {H H' : Hp} {ys : List V} (c : Chg l H H') (e : H l = some (.lst ys)) : TK H H' := fun a xs h => c.at h (ne_of h e (by intro z; cases z))
theorem Keep.tk {h : Addr} {H H' : Hp} {ys : List V} (c : Keep h H H') (e : H h = some (.lst ys)) : TK H H' := fun a xs q => c.at q (ne_of q e (by intro z; cases z))
theorem HandAt.keep_tk {h d : Addr} {H H' : Hp} (x : HandAt H h d) (c : Keep h H H') : TK H H' := by
  obtain ⟨n, ds, h1, _, _⟩ := x
  exact c.tk h1
theorem HandAt.chg_tk {h d : Addr} {H H' : Hp} (x : HandAt H h d) (c : Chg h H H') : TK H H' := x.keep_tk c.keep
mutual
theorem Tp.tk {H H' : Hp} (k : TK H H') : ∀ {d : PyData} {v : V}, Tp H v d → Tp H' v d
  | .none, _, h => by cases h; exact .non
  | .bool b, _, h => by cases h; exact .bl b
  | .int i, _, h => by cases h; exact .int i
  | .str x, _, h => by cases h; exact .str x
  | .tuple ds, _, h => by
    cases h with
    | tup e r => exact .tup (k _ _ e) (TpAll.tk k r)
  | .list _, _, h => by cases h
  | .dict _, _, h => by cases h
theorem TpAll.tk {H H' : Hp} (k : TK H H') : ∀ {ds : List PyData} {vs : List V}, TpAll H vs ds → TpAll H' vs ds
  | [], _, h => by cases h; exact .nil
  | d :: ds, _, h => by
    cases h with
    | cons h1 h2 => exact .cons (Tp.tk k h1) (TpAll.tk k h2)
end
mutual
theorem Tp.dp {K : PySem.W.Frag} {H : Hp} : ∀ {d : PyData} {v : V}, Tp H v d → Dp K H v d
  | .none, _, h => by cases h; exact .non
  | .bool b, _, h => by cases h; exact .bl b
  | .int i, _, h => by cases h; exact .int i
  | .str x, _, h => by cases h; exact .str x
  | .tuple ds, _, h => by
    cases h with
    | tup e r => exact .tup (tup_of e) (TpAll.dp r)
  | .list _, _, h => by cases h
  | .dict _, _, h => by cases h
theorem TpAll.dp {K : PySem.W.Frag} {H : Hp} : ∀ {ds : List PyData} {vs : List V}, TpAll H vs ds → DpAll K H vs ds
  | [], _, h => by cases h; exact .nil
  | d :: ds, _, h => by
    cases h with
    | cons h1 h2 => exact .cons (Tp.dp h1) (TpAll.dp h2)
end
theorem TpAll.get {H : Hp} : ∀ {vs : List V} {ds : List PyData} {i : Nat} {d : PyData}, TpAll H vs ds → ds[i]? = some d → ∃ v, vs[i]? = some v ∧ Tp H v d
  | _, _, _, _, .nil, h => by cases h
  | _, _, 0, _, .cons h1 _, h => by
    cases h
    exact ⟨_, rfl, h1⟩
  | _, _, i + 1, _, .cons _ h2, h => by
    obtain ⟨v, e, q⟩ := TpAll.get h2 (i := i) h
    exact ⟨v, e, q⟩
theorem TpAll.length {H : Hp} : ∀ {vs : List V} {ds : List PyData}, TpAll H vs ds → vs.length = ds.length
  | _, _, .nil => rfl
  | _, _, .cons _ h => by rw [List.length_cons, List.length_cons, h.length]
/-- a def that is never called so -/
theorem cal_never {P : Program} {w : World} {K : PySem.W.Frag} {mg : Str → Option Value} {base : Heap} {x : Str} {st : Stmt} {ps : List Str} {k : Nat} {sp : Sp} (F : DefOk K mg x st)
    (hb : ∀ f fd, FunD K x x (defArgs st) (defBody st) (defScope st) [] [] f fd → Binds K fd ps []) (no : ∀ vs H Q E, ¬ sp vs H Q E) : C8.Cal P w K mg base k x sp [] := by
  obtain ⟨f, fd, F, hm⟩ := F.ex
  exact ⟨f, fd, ps, [], ⟨fun vs H Q E h => absurd h (no _ _ _ _), fun A outer s H args us vs Q E hr he hb hv h => absurd h (no _ _ _ _)⟩, hm, F.kp, hb f fd F, .nil⟩
end Wy
open Wy
local macro_rules | `(tactic| walk_at "tr") => `(tactic| first | assumption | exact lst_of (by assumption) | exact tup_of (by assumption) | (refine Same.seq (by assumption) ?_; walk_at "tr") | (refine seqT (by assumption) ?_; walk_at "tr"))
local macro_rules | `(tactic| walk_at "s") => `(tactic| with_reducible first
  | refine s_seq ?_ | refine s_asg ?_ | refine g_name ?_ | refine s_ret ?_ | refine s_retN ?_ | refine s_drop ?_ | refine s_if ?_ | refine s_next ?_ | refine s_brk ?_ | refine s_ct ?_ | refine s_for ?_
  | refine e_var (by with_unfolding_all rfl) ?_ | refine e_c ?_ | refine e_op ?_ | refine e_un ?_ | refine a_cons ?_ | refine a_nil ?_ | refine c_b ?_ | refine c_call ?_ | refine t_test ?_ | refine k_bl ?_ | refine t_b ?_ | refine t_tr ?_ | refine k_trB ?_ | refine k_trN ?_ | refine k_trI ?_
  | refine t_and ?_ | refine t_or ?_ | refine t_not ?_ | refine e_andV ?_ | refine e_orV ?_ | refine e_notV ?_ | refine e_if ?_ | refine e_chain ?_ | refine e_tup ?_ | refine e_lst ?_ | refine e_sl ?_ | refine p_no ?_ | refine p_so ?_ | refine k_int ?_
  | refine m_bm ?_ | refine g_sub ?_ | refine m_m1 ?_ | refine m_st ?_ | refine e_lc ?_ | refine t_yes ?_ | refine w_r1 ?_ | refine w_r2 ?_ | refine w_l ?_ | refine w_t ?_ | refine w_s ?_ | refine k_s ?_
  | refine s_aug (by with_unfolding_all rfl) ?_ | refine i_add ?_ | refine o_addI ?_ | refine o_I0 ?_ | refine b_int ?_ | refine b_intB ?_ | refine b_abs ?_ | refine u_neg ?_ | refine o_isN ?_ | refine o_ntN ?_ | refine o_inS ?_ | refine o_niS ?_
  | refine g_cons ?_ | refine g_nil ?_ | refine e_joined ?_ | refine j_nil ?_ | refine j_cons ?_ | refine e_fmt ?_
  | refine o_mod (by omega) ?_ | refine o_fdiv (by omega) (by omega) ?_ | refine o_pow (by omega) (by omega) (by omega) ?_ | refine o_mulI2 (by omega) (by omega) ?_ | refine o_mulI1 (by omega) (by omega) ?_)
local macro_rules | `(tactic| walk_at "ss") => `(tactic| repeat walk_at "s")
namespace W6
open PySem PySem.Spec PyProof.Rows L2 Wy
theorem uu {a c : Nat} (h : a + 64 < c) : a + 1 < c := by omega
/-! ### a table of the top: texts to tuples -/
def rKd (K : PySem.W.Frag) (d : Addr) : R2 := fun x y H Q => ∃ (z : Str) (u0 : Value) (v0 : V), x = .ref d ∧ y = .str z ∧ PySem.W.nsIn K d z = some (some u0) ∧ RelV v0 u0 ∧ Q v0 H
theorem pe_kd {X : Cx} {d : Addr} {es : Array DictEntry} {n : Nat} {o i : Expr} {pos : Pos} {td ty : TE} (D : KDict X.K X.w d es n) (ho : PE X o td) (hi : PE X i ty) (hs : NoSl i) : PE X (.Subscript o i pos) (tOp (rKd X.K d) td ty) := by
  refine ⟨fun pins s σ H Q I h => ?_⟩
  refine subD_of PySem.F.slot_dict_getitem.lookup hs (thn (ho.run pins s σ H _ I h) fun u s1 ⟨x, H1, I1, rx, q1⟩ => thn (hi.run pins s1 σ H1 _ I1 q1) fun iv s2 ⟨y, H2, I2, ry, q2⟩ => ?_)
  have q3 := q2
  obtain ⟨z, u0, v0, ex, ey, e, r, q⟩ := q2
  subst ex
  have ru : u = Value.ref d := rx
  subst ru
  exact ⟨kd_type D I2, op_item_kd D pins s2 σ H2 (.ref d) y _ iv Q I2 rfl ry q3⟩
def tupAt (K : PySem.W.Frag) (o : Option Obj) (vs : List V) : Bool := match o with
  | some ⟨.type c, none, .seq its _, _⟩ => decide (c = "tuple") && (decide (its.size ≤ sizeLine) && He.relAll vs its.toList)
  | _ => false
def keyB (K : PySem.W.Frag) (d : Addr) (z : Str) (vs : List V) : Bool := match PySem.W.nsIn K d z with
  | some (some (.ref t)) => tupAt K (K.lookup t) vs
  | _ => false
theorem tupAt_ok {K : PySem.W.Frag} {t : Addr} {vs : List V} (h : tupAt K (K.lookup t) vs = true) (H : Hp) : SqT K H t vs := by
  unfold tupAt at h
  split at h
  · rename_i c its n sl e
    obtain ⟨h1, h2⟩ := He.ba h
    obtain ⟨h3, h4⟩ := He.ba h2
    exact .inr ⟨_, its, n, e, congrArg Value.type (of_decide_eq_true h1), rfl, of_decide_eq_true h3, He.relAll_ok h4⟩
  · cases h
theorem keyB_ok {K : PySem.W.Frag} {d : Addr} {z : Str} {vs : List V} (h : keyB K d z vs = true) : ∃ t, PySem.W.nsIn K d z = some (some (.ref t)) ∧ ∀ H, SqT K H t vs := by
  unfold keyB at h
  split at h
  · rename_i t e
    exact ⟨t, e, fun H => tupAt_ok h H⟩
  · cases h
theorem o_kd {K : PySem.W.Frag} {H : Hp} {Q : VK} {d t : Addr} {z : Str} (e : PySem.W.nsIn K d z = some (some (.ref t))) (q : Q (.ref t) H) : rKd K d (.ref d) (.str z) H Q := ⟨z, _, .ref t, rfl, rfl, e, rfl, q⟩
def rTup (K : PySem.W.Frag) : List V → Hp → VK → Prop := fun xs H Q => ∃ p ys, xs = [.ref p] ∧ ((SqL K H p ys ∧ ∀ l, H l = none → Q (.ref l) (upd H l (.tup ys))) ∨ (SqT K H p ys ∧ Q (.ref p) H))
theorem call_tup2 {X : Cx} : CallR X (.type "tuple") (rTup X.K) := call_tuple_of
theorem b_tup {K : PySem.W.Frag} {H : Hp} {Q : VK} {a : Addr} {xs : List V} (hs : SqL K H a xs) (h : ∀ p H2, H p = none → Same H H2 → H2 p = some (.tup xs) → Q (.ref p) H2) : rTup K [.ref a] H Q := ⟨a, xs, rfl, .inl ⟨hs, new_same h⟩⟩
end W6
/-! WN: more rules and steps. -/
namespace WN
open PySem PySem.Spec PyProof.Rows L2 Wy
theorem sm {H H' : Hp} {a : Addr} {o : HO} (s : Same H H') (h : H a = some o) : H' a = some o := s _ _ h
theorem cm {l : Addr} {H H' : Hp} {a : Addr} {o : HO} (c : Chg l H H') (n : a ≠ l) (h : H a = some o) : H' a = some o := c.at h n
theorem ne_new {H : Hp} {a l : Addr} {o : HO} (n : H l = none) (h : H a = some o) : a ≠ l := ne_of_none h n
theorem iteTT {b : Bool} {A B : Prop} (e : b = true) (h : A) : if b = true then A else B := by
  rw [if_pos e]
  exact h
theorem iteFF {b : Bool} {A B : Prop} (e : b = false) (h : B) : if b = true then A else B := by
  rw [if_neg (by rw [e]; exact Bool.false_ne_true)]
  exact h
theorem iteB {b : Bool} {A B : Prop} (h1 : b = true → A) (h2 : b = false → B) : if b = true then A else B := by
  cases b with
  | true => exact iteTT rfl (h1 rfl)
  | false => exact iteFF rfl (h2 rfl)
/-- a decided question -/
theorem iteD {p : Prop} [Decidable p] {A B : Prop} (h1 : p → A) (h2 : ¬ p → B) : if decide p = true then A else B := ite2 (fun e => h1 (of_decide_eq_true e)) fun e => h2 fun x => e (decide_eq_true x)
theorem iteND {p : Prop} [Decidable p] {A B : Prop} (h1 : ¬ p → A) (h2 : p → B) : if (!decide p) = true then A else B := by
  by_cases h : p
  · exact iteFF (by rw [decide_eq_true h]; rfl) (h2 h)
  · exact iteTT (by rw [decide_eq_false h]; rfl) (h1 h)
theorem nRN (a : Addr) : decide (V.ref a = V.non) = false := decide_eq_false (fun e => nomatch e)
theorem nIN (a : Int) : decide (V.int a = V.non) = false := decide_eq_false (fun e => nomatch e)
theorem nSN (a : Str) : decide (V.str a = V.non) = false := decide_eq_false (fun e => nomatch e)
theorem nBN (a : Bool) : decide (V.bl a = V.non) = false := decide_eq_false (fun e => nomatch e)
theorem nNRN (a : Addr) : (!decide (V.ref a = V.non)) = true := by rw [nRN]; rfl
theorem nNIN (a : Int) : (!decide (V.int a = V.non)) = true := by rw [nIN]; rfl
theorem nNSN (a : Str) : (!decide (V.str a = V.non)) = true := by rw [nSN]; rfl
theorem nNBN (a : Bool) : (!decide (V.bl a = V.non)) = true := by rw [nBN]; rfl
theorem dI (a b : Int) : decide (V.int a = V.int b) = decide (a = b) := by
  by_cases h : a = b
  · subst h
    rw [decide_eq_true rfl, decide_eq_true rfl]
  · rw [decide_eq_false h, decide_eq_false (fun e => h (V.int.inj e))]
theorem iteI {i j : Int} {A B : Prop} (h1 : i = j → A) (h2 : ¬ i = j → B) : if decide (V.int i = V.int j) = true then A else B := by
  rw [dI]
  exact iteD h1 h2
theorem iteNI {i j : Int} {A B : Prop} (h1 : ¬ i = j → A) (h2 : i = j → B) : if (!decide (V.int i = V.int j)) = true then A else B := by
  rw [dI]
  exact iteND h1 h2
theorem free_of {H H' : Hp} {a : Addr} (n : H' a = none) (s : Same H H') : H a = none := s.free n
theorem dB (a b : Bool) : decide (V.bl a = V.bl b) = decide (a = b) := by cases a <;> cases b <;> rfl
section
variable {X : Cx}
def rAll2 (K : PySem.W.Frag) : List V → Hp → VK → Prop := rAll K
theorem call_all2 (hc : X.calm = true) : CallR X (.builtin "all") (rAll2 X.K) := cr_all hc
def rSum2 (K : PySem.W.Frag) : List V → Hp → VK → Prop := rSum K
theorem call_sum2 (hc : X.calm = true) : CallR X (.builtin "sum") (rSum2 X.K) := cr_sum hc
def rMx2 (_ : PySem.W.Frag) : List V → Hp → VK → Prop := fun xs H Q => ∃ i j, xs = [.int i, .int j] ∧ Q (.int (if j > i then j else i)) H
theorem call_mx2 (hc : X.calm = true) : CallR X (.builtin "max") (rMx2 X.K) := call_max2 hc
def rMn2 (_ : PySem.W.Frag) : List V → Hp → VK → Prop := fun xs H Q => ∃ i j, xs = [.int i, .int j] ∧ Q (.int (if j < i then j else i)) H
theorem call_mn2 (hc : X.calm = true) : CallR X (.builtin "min") (rMn2 X.K) := call_min2 hc
def rIsi2 (K : PySem.W.Frag) : List V → Hp → VK → Prop := fun xs H Q => rIsi K xs H Q ∨ rIsiT K xs H Q
theorem call_isi2 : CallR X (.builtin "isinstance") (rIsi2 X.K) := Wy.CallR.or call_isi call_isiT
/-- a call of a built-in that wants calm -/
theorem pe_callC {id : String} {x : Str} {e : Expr} {es : List Expr} {p pos : Pos} {t : TA} {r : PySem.W.Frag → List V → Hp → VK → Prop} (hc : ∀ X : Cx, X.calm = true → CallR X (.builtin id) (r X.K)) (hg : Gl X x) (hm : X.mg x = none) (hv : bootBuiltins x = some (.builtin id)) (ha : PA X (e :: es) t) (hcalm : X.calm = true := by rfl) (hn : x ≠ "__name__" := by decide) (hdb : (x == ("__debug__" : Str)) = false := by decide)
    (he : starEach (e :: es) X.env = (false, eval e X.env) :: starEach es X.env := by rfl) (hpl : (backTo pos (starEach es X.env)).any (·.1) = false := by rfl) : PE X (.Call (.Name x p) (e :: es) [] pos) (tCB (r X.K) t) :=
  pe_callB (hc X hcalm) hg hm hv ha hn hdb he hpl
theorem cc_all (X : Cx) (h : X.calm = true) : CallR X (.builtin "all") (rAll2 X.K) := call_all2 h
theorem cc_sum (X : Cx) (h : X.calm = true) : CallR X (.builtin "sum") (rSum2 X.K) := call_sum2 h
theorem cc_max (X : Cx) (h : X.calm = true) : CallR X (.builtin "max") (rMx2 X.K) := call_mx2 h
theorem cc_min (X : Cx) (h : X.calm = true) : CallR X (.builtin "min") (rMn2 X.K) := call_mn2 h
/-- repr of data -/
def rRepr (K : PySem.W.Frag) : List V → Hp → VK → Prop := fun xs H Q => ∃ (a : Addr) (d : PyData), xs = [.ref a] ∧ Dp K H (.ref a) d ∧ d.showable = true ∧ d.hasDict = false ∧ d.depth ≤ 60 ∧ d.shown.length ≤ sizeLine ∧ Q (.str d.shown) H
end
section
variable {K : PySem.W.Frag} {H : Hp} {Q : VK} {v x y : V} {b : Bool}
theorem o_fdW {f : Int → Int → V} {i j : Int} (h1 : 0 < j) (h2 : j ≤ 10 ^ 90) (h : Q (f i j) H) : rI CDivW f (.int i) (.int j) H Q :=
  ⟨i, j, rfl, rfl, wide_div (b := 400) h1 (by
    have : (10 : Int) ^ 90 < 2 ^ 400 := by decide +kernel
    omega) (by decide) (by decide), h⟩
/-- a rest, its bounds alone -/
theorem o_modG {i j : Int} (h1 : 0 < j) (h : ∀ r : Int, 0 ≤ r → r < j → Q (.int r) H) : rI (fun _ j => 0 < j) (fun i j => .int (i % j)) (.int i) (.int j) H Q := o_mod h1 (h _ (Int.emod_nonneg _ (by omega)) (Int.emod_lt_of_pos _ h1))
theorem b_all {a : Addr} {bs : List Bool} (hs : SqL K H a (bs.map V.bl)) (h : Q (.bl (bs.all id)) H) : rAll2 K [.ref a] H Q := ⟨a, bs, rfl, hs, h⟩
theorem b_sum {a : Addr} {ns : List Int} (hs : SqL K H a (ns.map V.int)) (h : Q (.int ns.sum) H) : rSum2 K [.ref a] H Q := ⟨a, ns, rfl, hs, h⟩
theorem b_mx {i j : Int} (h : Q (.int (max i j)) H) : rMx2 K [.int i, .int j] H Q := ⟨i, j, rfl, by
  have e : (if j > i then j else i) = max i j := by split <;> omega
  rw [e]
  exact h⟩
theorem b_mn {i j : Int} (h : Q (.int (min i j)) H) : rMn2 K [.int i, .int j] H Q := ⟨i, j, rfl, by
  have e : (if j < i then j else i) = min i j := by split <;> omega
  rw [e]
  exact h⟩
theorem b_is2 {n : String} {x : V} {tv : Value} (ty : TyX K H x tv) (h : PySem.W.kitOne K tv (.type n) = some b) (q : Q (.bl b) H) : rIsi2 K [x, .ty n] H Q := .inl (b_isi ty h q)
theorem ls_new {a : Addr} {xs : List V} (hs : SqL K H a xs) (h : ∀ p H2, H p = none → Same H H2 → H2 p = some (.lst xs) → Q (.ref p) H2) : rLst K [.ref a] H Q := ⟨a, xs, rfl, .inl hs, new_same h⟩
theorem ls_newT {a : Addr} {xs : List V} (hs : SqT K H a xs) (h : ∀ p H2, H p = none → Same H H2 → H2 p = some (.lst xs) → Q (.ref p) H2) : rLst K [.ref a] H Q := ⟨a, xs, rfl, .inr hs, new_same h⟩
theorem tp_new {a : Addr} {xs : List V} (hs : SqL K H a xs) (h : ∀ p H2, H p = none → Same H H2 → H2 p = some (.tup xs) → Q (.ref p) H2) : W6.rTup K [.ref a] H Q := W6.b_tup hs h
theorem tp_same {a : Addr} {xs : List V} (hs : SqT K H a xs) (h : Q (.ref a) H) : W6.rTup K [.ref a] H Q := ⟨a, xs, rfl, .inr ⟨hs, h⟩⟩
end
/-! ### draws -/
/-- each draw lies below its size -/
inductive Dr : List Int → List Int → Prop
  | nil : Dr [] []
  | cons {d s : Int} {ds ss : List Int} : 0 ≤ d → d < s → Dr ds ss → Dr (d :: ds) (s :: ss)
theorem Dr.len : ∀ {ds ss : List Int}, Dr ds ss → ds.length = ss.length
  | _, _, .nil => rfl
  | _, _, .cons _ _ h => by rw [List.length_cons, List.length_cons, h.len]
theorem Dr.snoc : ∀ {ds ss : List Int} {d s : Int}, Dr ds ss → 0 ≤ d → d < s → Dr (ds ++ [d]) (ss ++ [s])
  | _, _, _, _, .nil, h1, h2 => .cons h1 h2 .nil
  | _, _, _, _, .cons a b h, h1, h2 => .cons a b (h.snoc h1 h2)
theorem Dr.at : ∀ {ds ss : List Int} {i : Nat} {s : Int}, Dr ds ss → ss[i]? = some s → ∃ d, ds[i]? = some d ∧ 0 ≤ d ∧ d < s
  | _, _, 0, _, .cons a b _, e => by cases e; exact ⟨_, rfl, a, b⟩
  | _, _, i + 1, _, .cons _ _ h, e => h.at (i := i) e
theorem Dr.get {ds ss : List Int} {i : Nat} {d : Int} (h : Dr ds ss) (e : ds[i]? = some d) : ∃ s, ss[i]? = some s ∧ 0 ≤ d ∧ d < s := by
  have hl := h.len
  have hi := (List.getElem?_eq_some_iff.mp e).1
  obtain ⟨d', e', h1, h2⟩ := h.at (i := i) (List.getElem?_eq_getElem (by omega))
  rw [e] at e'
  cases e'
  exact ⟨_, List.getElem?_eq_getElem (by omega), h1, h2⟩
theorem Dr.inv {ds ss : List Int} {s : Int} (h : Dr ds (s :: ss)) : ∃ d r, ds = d :: r ∧ 0 ≤ d ∧ d < s ∧ Dr r ss := by
  cases h with
  | cons h1 h2 h3 => exact ⟨_, _, rfl, h1, h2, h3⟩
theorem Dr.nil_inv {ds : List Int} (h : Dr ds []) : ds = [] := by
  cases h
  rfl
/-- sizes that may be drawn below -/
def SzOk (ss : List Int) : Prop := ss.length ≤ 1000 ∧ ∀ s ∈ ss, 0 < s ∧ s ≤ 10 ^ 80
theorem szOk_of {ss : List Int} (h : (decide (ss.length ≤ 1000) && ss.all fun s => decide (0 < s) && decide (s ≤ 10 ^ 80)) = true) : SzOk ss := by
  simp only [Bool.and_eq_true, decide_eq_true_eq, List.all_eq_true] at h
  exact h
def PR : List Int := [2147483647, 998244353, 1000000007, 1000000009, 4294967291, 1073741789, 536870909, 2305843009213693951]
theorem pr_at {j : Nat} (h : j < 8) : ∃ p, PR[j]? = some p ∧ 0 < p ∧ p < 2 ^ 62 := by
  have : ∀ j, j < 8 → 0 < PR.getD j 0 ∧ PR.getD j 0 < 2 ^ 62 := by decide +kernel
  exact ⟨PR.getD j 0, by rw [List.getD_eq_getElem?_getD, List.getElem?_eq_getElem (by exact h)]; rfl, this j h⟩
theorem ix_pr {K : PySem.W.Frag} {H : Hp} {Q : VK} {a : Addr} {i : Int} (e : H a = some (.lst (PR.map V.int))) (h0 : 0 ≤ i) (h8 : i < 8) (h : ∀ p : Int, 0 < p → p < 2 ^ 62 → Q (.int p) H) : rIx K (.ref a) (.int i) H Q := by
  obtain ⟨p, g, p1, p2⟩ := pr_at (j := i.toNat) (by omega)
  exact o_ixL (lst_of e) (atI_of (j := i.toNat) (by omega) (v := .int p) (by rw [List.getElem?_map, g]; rfl)) (h p p1 p2)
/-- an int out of a list of ints -/
theorem ix_int {K : PySem.W.Frag} {H : Hp} {Q : VK} {a : Addr} {xs : List Int} {i : Int} (hs : SqL K H a (xs.map V.int)) (h0 : 0 ≤ i) (h1 : i < xs.length) (h : ∀ x : Int, xs[i.toNat]? = some x → Q (.int x) H) : rIx K (.ref a) (.int i) H Q := by
  have e := List.getElem?_eq_getElem (l := xs) (i := i.toNat) (by omega)
  exact o_ixL hs (atI_of (j := i.toNat) (by omega) (v := .int xs[i.toNat]) (by rw [List.getElem?_map, e]; rfl)) (h _ e)
def spCellN (K : PySem.W.Frag) : Sp := fun vs H Q _ => ∃ (a : Addr) (ns : List Int) (k : Int), vs = [.ref a, .int k] ∧ SqL K H a (ns.map V.int) ∧ ∀ r : Int, Q (.int r) H
def spDraws (K : PySem.W.Frag) : Sp := fun vs H Q _ => ∃ (a b : Addr) (ns ss : List Int) (k : Int), vs = [.ref a, .int k, .ref b] ∧ SqL K H a (ns.map V.int) ∧ SqL K H b (ss.map V.int) ∧ SzOk ss ∧
  ∀ p H' ds, Same H H' → H p = none → H' p = some (.lst ((ds : List Int).map V.int)) → Dr ds ss → Q (.ref p) H'
/-! ### lists and tuples alike -/
def iSeq (K : PySem.W.Frag) (te : TE) : TI := fun σ H R => iList K te σ H R ∨ iTup K te σ H R
theorem pi_seq {X : Cx} {tg e : Expr} {te : TE} (h : PE X e te) : PI X tg e (iSeq X.K te) := ⟨fun pins s σ H R I q => q.elim (fun q => (pi_list h).run pins s σ H R I q) (fun q => (pi_tup h).run pins s σ H R I q)⟩
theorem w_sl {K : PySem.W.Frag} {te : TE} {σ : L2.St} {H : Hp} {R : It → Hp → Prop} (h : te σ H fun x H1 => KL K x H1 R) : iSeq K te σ H R := .inl h
theorem w_st {K : PySem.W.Frag} {te : TE} {σ : L2.St} {H : Hp} {R : It → Hp → Prop} (h : te σ H fun x H1 => KT K x H1 R) : iSeq K te σ H R := .inr h
def Sq (K : PySem.W.Frag) (H : Hp) (a : Addr) (xs : List V) : Prop := SqL K H a xs ∨ SqT K H a xs
theorem Sq.same {K : PySem.W.Frag} {H H' : Hp} {a : Addr} {xs : List V} (h : Sq K H a xs) (s : Same H H') : Sq K H' a xs := h.imp (fun h => s.seq h) fun h => seqT s h
/-- an iterator over such -/
def SqIt (K : PySem.W.Frag) (a : Addr) (xs : List V) (J : It) (H : Hp) : Prop := (J = Itl K a ∧ SqL K H a xs) ∨ (J = Itt K a ∧ SqT K H a xs)
theorem SqIt.same {K : PySem.W.Frag} {H H' : Hp} {a : Addr} {xs : List V} {J : It} (h : SqIt K a xs J H) (s : Same H H') : SqIt K a xs J H' := h.imp (fun h => ⟨h.1, s.seq h.2⟩) fun h => ⟨h.1, seqT s h.2⟩
section
variable {K : PySem.W.Frag} {σ : L2.St} {H : Hp} {Q : VK} {D : Ends} {t : TS} {te : TE} {tt : TT} {g : TG} {a : Addr} {xs : List V} {vs : List Nat} {i : Nat} {J : It}
/-- for x in v, v a slot -/
theorem w_sq {R : It → Hp → Prop} (hs : Sq K H a xs) (e : σ[i]? = some (some (.ref a))) (h : ∀ J, SqIt K a xs J H → R J H) : iSeq K (tVar i) σ H R := by
  rcases hs with hs | hs
  · exact .inl (w_l (e_var e (k_l hs (h _ (.inl ⟨rfl, hs⟩)))))
  · exact .inr (w_t (e_var e (k_t hs (h _ (.inr ⟨rfl, hs⟩)))))
theorem f_sq {H0 : Hp} (hJ : SqIt K a xs J H0) (Pv : Nat → L2.St → Hp → Prop) (h0 : Pv 0 σ H) (hl : ∀ i σ H, Pv i σ H → Same H0 H)
    (hs : ∀ i x σ H, xs[i]? = some x → Pv i σ H → g x σ H fun σ2 H2 => t ⟨Pv (i + 1), D.rt, D.nx, Pv (i + 1)⟩ σ2 H2) (hd : ∀ σ H, Pv xs.length σ H → D.nx σ H) : LoopF J g t D σ H := by
  rcases hJ with ⟨rfl, hJ⟩ | ⟨rfl, hJ⟩
  · exact f_list Pv h0 (fun i σ H _ p => (hl i σ H p).seq hJ) hs hd
  · exact f_tup Pv h0 (fun i σ H _ p => seqT (hl i σ H p) hJ) hs hd
/-- a list comprehension: what is taken so far -/
theorem c_acc (hJ : SqIt K a xs J H) (R : Nat → List V → Hp → Prop) (mono : ∀ i acc H H', TK H H' → R i acc H → R i acc H') (small : ∀ i acc H, i ≤ xs.length → R i acc H → acc.length < sizeLine) (r0 : R 0 [] H)
    (step : ∀ i x H1 acc (N : VK) (M : Hp → Prop), xs[i]? = some x → Same H H1 → R i acc H1 → (∀ y H3, Same H1 H3 → R (i + 1) (acc ++ [y]) H3 → N y H3) → (∀ H3, Same H1 H3 → R (i + 1) acc H3 → M H3) →
      g x (wipe σ vs) H1 fun σ2 H2 => wipe σ2 vs = wipe σ vs ∧ tt σ2 H2 fun b H3 => if b = true then te σ2 H3 N else M H3)
    (post : ∀ D H2 ys, H D = none → Same H H2 → H2 D = some (.lst ys) → R xs.length ys H2 → Q (.ref D) H2) : LoopC J g tt te vs σ H Q := by
  have key : ∀ (D : Addr) (i : Nat) (x : V) (H1 : Hp), xs[i]? = some x → H D = none → (Same H H1 ∧ ∃ acc, H1 D = some (.lst acc) ∧ R i acc H1) → g x (wipe σ vs) H1 fun σ2 H2 => wipe σ2 vs = wipe σ vs ∧ tt σ2 H2 fun b H3 =>
      if b = true then te σ2 H3 fun y H4 => COut D y H4 (fun H5 => Same H H5 ∧ ∃ acc, H5 D = some (.lst acc) ∧ R (i + 1) acc H5) else (fun H5 => Same H H5 ∧ ∃ acc, H5 D = some (.lst acc) ∧ R (i + 1) acc H5) H3 := by
    intro D i x H1 hx nD ⟨s1, acc, e1, r1⟩
    have hi := (List.getElem?_eq_some_iff.mp hx).1
    refine step i x H1 acc _ _ hx s1 r1 (fun y H3 s3 r3 => ?_) (fun H3 s3 r3 => ⟨s1.trans s3, acc, s3 _ _ e1, r3⟩)
    refine c_out (s3 _ _ e1) (small i acc H1 (by omega) r1) fun H4 c4 e4 => ⟨c4.same (s1.trans s3) nD, _, e4, mono _ _ _ _ (c4.tk (s3 _ _ e1)) r3⟩
  have p0 : ∀ (D : Addr) (H1 : Hp), H D = none → Same H H1 → H1 D = some (.lst []) → (Same H H1 ∧ ∃ acc, H1 D = some (.lst acc) ∧ R 0 acc H1) := fun D H1 nD s1 e1 => ⟨s1, [], e1, mono _ _ _ _ s1.tk r0⟩
  have pe : ∀ (D : Addr) (H1 : Hp), H D = none → (Same H H1 ∧ ∃ acc, H1 D = some (.lst acc) ∧ R xs.length acc H1) → Q (.ref D) H1 := fun D H1 nD ⟨s1, acc, e1, r1⟩ => post D H1 acc nD s1 e1 r1
  rcases hJ with ⟨rfl, hJ⟩ | ⟨rfl, hJ⟩
  · exact c_list (fun D i H1 => Same H H1 ∧ ∃ acc, H1 D = some (.lst acc) ∧ R i acc H1) p0 (fun D i H1 _ _ p => p.1.seq hJ) (fun D i x H1 hx nD p => key D i x H1 hx nD p) pe
  · exact fun D nD => lc_tup (fun i H1 => Same H H1 ∧ ∃ acc, H1 D = some (.lst acc) ∧ R i acc H1) (p0 D _ nD (same_new nD) upd_same) (fun i H1 _ p => seqT p.1 hJ) (fun i x H1 hx p => key D i x H1 hx nD p) fun H1 p => pe D H1 nD p
theorem c_accR {lo : Int} {n : Nat} (R : Nat → List V → Hp → Prop) (mono : ∀ i acc H H', TK H H' → R i acc H → R i acc H') (small : ∀ i acc H, i ≤ n → R i acc H → acc.length < sizeLine) (r0 : R 0 [] H)
    (step : ∀ i H1 acc (N : VK) (M : Hp → Prop), i < n → Same H H1 → R i acc H1 → (∀ y H3, Same H1 H3 → R (i + 1) (acc ++ [y]) H3 → N y H3) → (∀ H3, Same H1 H3 → R (i + 1) acc H3 → M H3) →
      g (.int (lo + i)) (wipe σ vs) H1 fun σ2 H2 => wipe σ2 vs = wipe σ vs ∧ tt σ2 H2 fun b H3 => if b = true then te σ2 H3 N else M H3)
    (post : ∀ D H2 ys, H D = none → Same H H2 → H2 D = some (.lst ys) → R n ys H2 → Q (.ref D) H2) : LoopC (Itr lo n) g tt te vs σ H Q := by
  refine c_range (fun D i H1 => Same H H1 ∧ ∃ acc, H1 D = some (.lst acc) ∧ R i acc H1) (fun D H1 nD s1 e1 => ⟨s1, [], e1, mono _ _ _ _ s1.tk r0⟩) (fun D i H1 hi nD p => ?_) (fun D H1 nD ⟨s1, acc, e1, r1⟩ => post D H1 acc nD s1 e1 r1)
  obtain ⟨s1, acc, e1, r1⟩ := p
  refine step i H1 acc _ _ hi s1 r1 (fun y H3 s3 r3 => ?_) (fun H3 s3 r3 => ⟨s1.trans s3, acc, s3 _ _ e1, r3⟩)
  refine c_out (s3 _ _ e1) (small i acc H1 (by omega) r1) fun H4 c4 e4 => ⟨c4.same (s1.trans s3) nD, _, e4, mono _ _ _ _ (c4.tk (s3 _ _ e1)) r3⟩
end
/-- one value an item -/
def One (P : Nat → V → Hp → Prop) (i : Nat) (acc : List V) (H : Hp) : Prop := acc.length = i ∧ ∀ j y, acc[j]? = some y → P j y H
theorem One.zero {P : Nat → V → Hp → Prop} {H : Hp} : One P 0 [] H := ⟨rfl, fun j y e => by cases e⟩
theorem One.snoc {P : Nat → V → Hp → Prop} {i : Nat} {acc : List V} {H H3 : Hp} {y : V} (mono : ∀ j z, P j z H → P j z H3) (o : One P i acc H) (h : P i y H3) : One P (i + 1) (acc ++ [y]) H3 := by
  refine ⟨by rw [List.length_append, o.1]; rfl, fun j z e => ?_⟩
  by_cases hj : j < acc.length
  · rw [List.getElem?_append_left hj] at e
    exact mono _ _ (o.2 j z e)
  · have hj2 := (List.getElem?_eq_some_iff.mp e).1
    rw [List.length_append, List.length_singleton] at hj2
    have : j = acc.length := by omega
    subst this
    rw [List.getElem?_append_right (Nat.le_refl _), Nat.sub_self] at e
    cases e
    rw [o.1]
    exact h
/-- the list is known from its items -/
theorem One.eq {P : Nat → V → Hp → Prop} {α : Type} {F : α → V} {xs : List α} {acc : List V} {H : Hp} (o : One P xs.length acc H) (h : ∀ j y, j < xs.length → P j y H → xs[j]?.map F = some y) : acc = xs.map F := by
  refine List.ext_getElem? fun j => ?_
  by_cases hj : j < xs.length
  · have hj2 : j < acc.length := by rw [o.1]; exact hj
    rw [List.getElem?_map, h j _ hj (o.2 j acc[j] (List.getElem?_eq_getElem hj2)), List.getElem?_eq_getElem hj2]
  · rw [List.getElem?_eq_none (by rw [o.1]; omega), List.getElem?_eq_none (by rw [List.length_map]; omega)]
theorem One.eqR {P : Nat → V → Hp → Prop} {n : Nat} {F : Nat → V} {acc : List V} {H : Hp} (o : One P n acc H) (h : ∀ j y, j < n → P j y H → y = F j) : acc = (List.range n).map F := by
  refine One.eq (xs := List.range n) (F := F) (by rw [List.length_range]; exact o) fun j y hj p => ?_
  rw [List.length_range] at hj
  rw [List.getElem?_range hj, h j y hj p]
  rfl
theorem One.ints {P : Nat → V → Hp → Prop} {n : Nat} {acc : List V} {H : Hp} (o : One P n acc H) (h : ∀ j y, j < n → P j y H → ∃ i : Int, y = .int i) : ∃ xs : List Int, acc = xs.map V.int ∧ xs.length = n := by
  have key : ∀ acc : List V, (∀ y ∈ acc, ∃ i : Int, y = .int i) → ∃ xs : List Int, acc = xs.map V.int := by
    intro acc
    induction acc with
    | nil => exact fun _ => ⟨[], rfl⟩
    | cons y r ih =>
      intro h
      obtain ⟨i, rfl⟩ := h y List.mem_cons_self
      obtain ⟨xs, rfl⟩ := ih fun z hz => h z (List.mem_cons_of_mem _ hz)
      exact ⟨i :: xs, rfl⟩
  obtain ⟨xs, e⟩ := key acc fun y hy => by
    obtain ⟨j, hj, e⟩ := List.getElem_of_mem hy
    exact h j y (by rw [← o.1]; exact hj) (o.2 j y (by rw [List.getElem?_eq_getElem hj, e]))
  exact ⟨xs, e, by rw [← o.1, e, List.length_map]⟩
/-- `xs` with the pattern n times -/
theorem One.const {n : Nat} {acc : List V} {H : Hp} {v : V} (o : One (fun _ y _ => y = v) n acc H) : acc = List.replicate n v := by
  refine List.ext_getElem? fun j => ?_
  rw [List.getElem?_replicate]
  by_cases hj : j < n
  · rw [if_pos hj, List.getElem?_eq_getElem (by rw [o.1]; exact hj), o.2 j _ (List.getElem?_eq_getElem (by rw [o.1]; exact hj))]
  · rw [if_neg hj, List.getElem?_eq_none (by rw [o.1]; omega)]
end WN
/-! WQ: data that is equal. -/
namespace WQ
open PySem PySem.Spec PyProof.Rows L2 Wy WN
mutual
/-- no truth value in it -/
def nb : PyData → Bool
  | .none => true
  | .bool _ => false
  | .int _ => true
  | .str _ => true
  | .list xs => nbAll xs
  | .tuple xs => nbAll xs
  | .dict _ => false
def nbAll : List PyData → Bool
  | [] => true
  | x :: xs => nb x && nbAll xs
end
mutual
theorem eqv_iff : ∀ (d e : PyData), nb d = true → nb e = true → (PyData.eqv d e = true ↔ d = e)
  | .none, e, _, h => by cases e <;> simp [PyData.eqv, nb] at h ⊢
  | .bool _, _, h, _ => by simp [nb] at h
  | .int i, e, _, h => by cases e <;> simp [PyData.eqv, nb] at h ⊢
  | .str x, e, _, h => by cases e <;> simp [PyData.eqv, nb] at h ⊢
  | .list xs, e, h, h' => by
    cases e with
    | list ys =>
      have ih := eqvAll_iff xs ys (by simpa [nb] using h) (by simpa [nb] using h')
      simp [PyData.eqv, ih]
    | _ => simp [PyData.eqv, nb] at h' ⊢
  | .tuple xs, e, h, h' => by
    cases e with
    | tuple ys =>
      have ih := eqvAll_iff xs ys (by simpa [nb] using h) (by simpa [nb] using h')
      simp [PyData.eqv, ih]
    | _ => simp [PyData.eqv, nb] at h' ⊢
  | .dict _, _, h, _ => by simp [nb] at h
theorem eqvAll_iff : ∀ (xs ys : List PyData), nbAll xs = true → nbAll ys = true → (PyData.eqvAll xs ys = true ↔ xs = ys)
  | [], [], _, _ => by simp [PyData.eqvAll]
  | [], _ :: _, _, _ => by simp [PyData.eqvAll]
  | _ :: _, [], _, _ => by simp [PyData.eqvAll]
  | x :: xs, y :: ys, h, h' => by
    simp only [nbAll, Bool.and_eq_true] at h h'
    have i1 := eqv_iff x y h.1 h'.1
    have i2 := eqvAll_iff xs ys h.2 h'.2
    simp [PyData.eqvAll, i1, i2]
end
theorem shaped_of {d : PyData} (h : d.canLay0 = true) (h2 : d.depth ≤ 64) : SeqAt.shaped d = true := by
  unfold SeqAt.shaped
  rw [h, decide_eq_true h2]
  rfl
section
variable {K : PySem.W.Frag} {H : Hp} {Q : VK} {x y : V} {d e : PyData}
theorem eq_same (h1 : Dp K H x d) (h2 : Dp K H y d) (hs : SeqAt.shaped d = true) (h : Q (.bl true) H) : rEq2 K x y H Q := by
  refine o_eqD h1 h2 hs hs ?_
  rw [SeqAt.eqv_refl _ (SeqAt.canLay_of_shaped hs)]
  exact h
theorem ne_same (h1 : Dp K H x d) (h2 : Dp K H y d) (hs : SeqAt.shaped d = true) (h : Q (.bl false) H) : rNe2 K x y H Q := by
  refine o_neD h1 h2 hs hs ?_
  rw [SeqAt.eqv_refl _ (SeqAt.canLay_of_shaped hs)]
  exact h
theorem eq_nb (h1 : Dp K H x d) (h2 : Dp K H y e) (hs : SeqAt.shaped d = true) (hs2 : SeqAt.shaped e = true) (n1 : nb d = true) (n2 : nb e = true) (hy : d = e → Q (.bl true) H) (hn : d ≠ e → Q (.bl false) H) : rEq2 K x y H Q := by
  refine o_eqD h1 h2 hs hs2 ?_
  have i := eqv_iff d e n1 n2
  cases q : PyData.eqv d e with
  | true => exact hy (i.mp q)
  | false => exact hn fun z => by rw [i.mpr z] at q; cases q
theorem ne_nb (h1 : Dp K H x d) (h2 : Dp K H y e) (hs : SeqAt.shaped d = true) (hs2 : SeqAt.shaped e = true) (n1 : nb d = true) (n2 : nb e = true) (hy : d = e → Q (.bl false) H) (hn : d ≠ e → Q (.bl true) H) : rNe2 K x y H Q := by
  refine o_neD h1 h2 hs hs2 ?_
  have i := eqv_iff d e n1 n2
  cases q : PyData.eqv d e with
  | true => exact hy (i.mp q)
  | false => exact hn fun z => by rw [i.mpr z] at q; cases q
end
theorem lay_all {α : Type} (F : α → PyData) : ∀ xs : List α, (∀ x ∈ xs, (F x).canLay0 = true) → PyData.canLayAll0 (xs.map F) = true
  | [], _ => by simp [PyData.canLayAll0]
  | x :: xs, h => by simp [PyData.canLayAll0, h x List.mem_cons_self, lay_all F xs fun y hy => h y (List.mem_cons_of_mem _ hy)]
theorem dep_all {α : Type} (F : α → PyData) (n : Nat) : ∀ xs : List α, (∀ x ∈ xs, (F x).depth ≤ n) → PyData.depthAll (xs.map F) ≤ n
  | [], _ => by simp [PyData.depthAll]
  | x :: xs, h => by
    have h1 := h x List.mem_cons_self
    have h2 := dep_all F n xs fun y hy => h y (List.mem_cons_of_mem _ hy)
    simp only [List.map_cons, PyData.depthAll]
    omega
theorem nb_all {α : Type} (F : α → PyData) : ∀ xs : List α, (∀ x ∈ xs, nb (F x) = true) → nbAll (xs.map F) = true
  | [], _ => by simp [nbAll]
  | x :: xs, h => by simp [nbAll, h x List.mem_cons_self, nb_all F xs fun y hy => h y (List.mem_cons_of_mem _ hy)]
theorem shL {α : Type} (F : α → PyData) (xs : List α) (n : Nat) (hn : n < 64) (h : ∀ x ∈ xs, (F x).canLay0 = true ∧ (F x).depth ≤ n) : SeqAt.shaped (.list (xs.map F)) = true :=
  shaped_of (by simp [PyData.canLay0, lay_all F xs fun x hx => (h x hx).1]) (by have := dep_all F n xs fun x hx => (h x hx).2; simp only [PyData.depth]; omega)
theorem shT {α : Type} (F : α → PyData) (xs : List α) (n : Nat) (hn : n < 64) (h : ∀ x ∈ xs, (F x).canLay0 = true ∧ (F x).depth ≤ n) : SeqAt.shaped (.tuple (xs.map F)) = true :=
  shaped_of (by simp [PyData.canLay0, lay_all F xs fun x hx => (h x hx).1]) (by have := dep_all F n xs fun x hx => (h x hx).2; simp only [PyData.depth]; omega)
theorem lay_int (i : Int) : (PyData.int i).canLay0 = true ∧ (PyData.int i).depth ≤ 0 := ⟨by simp [PyData.canLay0], by simp [PyData.depth]⟩
theorem lay_bool (b : Bool) : (PyData.bool b).canLay0 = true ∧ (PyData.bool b).depth ≤ 0 := ⟨by simp [PyData.canLay0], by simp [PyData.depth]⟩
theorem lay_tup {ds : List PyData} {n : Nat} (h : ∀ x ∈ ds, x.canLay0 = true ∧ x.depth ≤ n) : (PyData.tuple ds).canLay0 = true ∧ (PyData.tuple ds).depth ≤ n + 1 := by
  have h1 := lay_all id ds fun x hx => (h x hx).1
  have h2 := dep_all id n ds fun x hx => (h x hx).2
  rw [List.map_id] at h1 h2
  exact ⟨by simp [PyData.canLay0, h1], by simp only [PyData.depth]; omega⟩
/-! values to data -/
theorem dp_ints {K : PySem.W.Frag} {H : Hp} : ∀ xs : List Int, DpAll K H (xs.map V.int) (xs.map PyData.int)
  | [] => .nil
  | x :: xs => .cons (.int x) (dp_ints xs)
theorem dp_bls {K : PySem.W.Frag} {H : Hp} : ∀ xs : List Bool, DpAll K H (xs.map V.bl) (xs.map PyData.bool)
  | [] => .nil
  | x :: xs => .cons (.bl x) (dp_bls xs)
theorem tp_ints {H : Hp} : ∀ xs : List Int, TpAll H (xs.map V.int) (xs.map PyData.int)
  | [] => .nil
  | x :: xs => .cons (.int x) (tp_ints xs)
theorem ints_tp {H : Hp} : ∀ {xs : List Int} {vs : List V}, TpAll H vs (xs.map PyData.int) → vs = xs.map V.int
  | [], _, h => by cases h; rfl
  | x :: xs, _, h => by
    cases h with
    | cons h1 h2 =>
      cases h1
      rw [ints_tp h2]
      rfl
theorem tpGet {α : Type} {F : α → PyData} {H : Hp} {us : List V} {xs : List α} {i : Nat} {u : V} (t : TpAll H us (xs.map F)) (e : us[i]? = some u) : ∃ x, xs[i]? = some x ∧ Tp H u (F x) := by
  have hl := t.length
  rw [List.length_map] at hl
  have hi := (List.getElem?_eq_some_iff.mp e).1
  have hx : xs[i]? = some xs[i] := List.getElem?_eq_getElem (by omega)
  obtain ⟨v, e2, tv⟩ := t.get (i := i) (d := F xs[i]) (by rw [List.getElem?_map, hx]; rfl)
  rw [e] at e2
  cases e2
  exact ⟨_, hx, tv⟩
theorem tpAt {α : Type} {F : α → PyData} {H : Hp} {us : List V} {xs : List α} {i : Nat} {x : α} (t : TpAll H us (xs.map F)) (e : xs[i]? = some x) : ∃ u, us[i]? = some u ∧ Tp H u (F x) :=
  t.get (by rw [List.getElem?_map, e]; rfl)
theorem tp3 {H : Hp} {v : V} {d1 d2 d3 : PyData} (h : Tp H v (.tuple [d1, d2, d3])) : ∃ a v1 v2 v3, v = .ref a ∧ H a = some (.tup [v1, v2, v3]) ∧ Tp H v1 d1 ∧ Tp H v2 d2 ∧ Tp H v3 d3 := by
  cases h with
  | tup e r =>
    cases r with | cons h1 r => cases r with | cons h2 r => cases r with | cons h3 r =>
      cases r
      exact ⟨_, _, _, _, rfl, e, h1, h2, h3⟩
theorem tp2 {H : Hp} {v : V} {d1 d2 : PyData} (h : Tp H v (.tuple [d1, d2])) : ∃ a v1 v2, v = .ref a ∧ H a = some (.tup [v1, v2]) ∧ Tp H v1 d1 ∧ Tp H v2 d2 := by
  cases h with
  | tup e r =>
    cases r with | cons h1 r => cases r with | cons h2 r =>
      cases r
      exact ⟨_, _, _, rfl, e, h1, h2⟩
theorem tpL {H : Hp} {v : V} {ds : List PyData} (h : Tp H v (.tuple ds)) : ∃ a vs, v = .ref a ∧ H a = some (.tup vs) ∧ TpAll H vs ds := by
  cases h with
  | tup e r => exact ⟨_, _, rfl, e, r⟩
theorem tpSnoc {H : Hp} {us : List V} {ds : List PyData} {v : V} {d : PyData} (t : TpAll H us ds) (h : Tp H v d) : TpAll H (us ++ [v]) (ds ++ [d]) := by
  induction us generalizing ds with
  | nil => cases t; exact .cons h .nil
  | cons u r ih => cases t with | cons a b => exact .cons a (ih b)
theorem tpApp {H : Hp} {us vs : List V} {ds es : List PyData} (t : TpAll H us ds) (h : TpAll H vs es) : TpAll H (us ++ vs) (ds ++ es) := by
  induction us generalizing ds with
  | nil => cases t; exact h
  | cons u r ih => cases t with | cons a b => exact .cons a (ih b)
theorem tpOf {H : Hp} : ∀ {us : List V} {ds : List PyData}, us.length = ds.length → (∀ (j : Nat) (y : V) (d : PyData), us[j]? = some y → ds[j]? = some d → Tp H y d) → TpAll H us ds
  | [], [], _, _ => .nil
  | [], _ :: _, h, _ => by simp at h
  | _ :: _, [], h, _ => by simp at h
  | u :: us, d :: ds, h, g => .cons (g 0 u d rfl rfl) (tpOf (by simpa using h) fun j y d a b => g (j + 1) y d (by simpa using a) (by simpa using b))
/-- one by one over a range -/
theorem tpOne {P : Nat → V → Hp → Prop} {F : Nat → PyData} {n : Nat} {us : List V} {H : Hp} (o : One P n us H) (h : ∀ j y, j < n → P j y H → Tp H y (F j)) : TpAll H us ((List.range n).map F) :=
  tpOf (by rw [o.1, List.length_map, List.length_range]) fun j y d a b => by
    have hj : j < n := by have := (List.getElem?_eq_some_iff.mp a).1; rw [o.1] at this; exact this
    rw [List.getElem?_map, List.getElem?_range hj] at b
    cases b
    exact h j y hj (o.2 j y a)
/-- tuples of ints -/
def iT (xs : List Int) : PyData := .tuple (xs.map .int)
theorem tpI {H : Hp} {v : V} {xs : List Int} (h : Tp H v (iT xs)) : ∃ a, v = .ref a ∧ H a = some (.tup (xs.map V.int)) := by
  obtain ⟨a, vs, rfl, e, t⟩ := tpL h
  rw [ints_tp t] at e
  exact ⟨a, rfl, e⟩
theorem iT_tp {H : Hp} {a : Addr} {xs : List Int} (e : H a = some (.tup (xs.map V.int))) : Tp H (.ref a) (iT xs) := .tup e (tp_ints xs)
theorem iT_lay (xs : List Int) : (iT xs).canLay0 = true ∧ (iT xs).depth ≤ 1 := lay_tup fun x hx => by
  obtain ⟨i, _, rfl⟩ := List.mem_map.mp hx
  exact lay_int i
theorem nb_int : ∀ xs : List Int, nbAll (xs.map PyData.int) = true
  | [] => rfl
  | x :: xs => by simp [nbAll, nb, nb_int xs]
theorem iT_nb (xs : List Int) : nb (iT xs) = true := by
  show nbAll _ = true
  exact nb_int xs
end WQ
/-! WS: differences and values. -/
namespace WS
open PySem PySem.Spec PyProof.Rows L2 Wy WN WQ
abbrev Df := Int × Int × Int
def dfD (d : Df) : PyData := .tuple [.int d.1, .int d.2.1, .int d.2.2]
theorem dfD_lay (d : Df) : (dfD d).canLay0 = true ∧ (dfD d).depth ≤ 1 := lay_tup (n := 0) fun x hx => by
  simp only [List.mem_cons, List.not_mem_nil, or_false] at hx
  rcases hx with rfl | rfl | rfl <;> exact lay_int _
theorem dfD_nb (d : Df) : nb (dfD d) = true := rfl
/-- the value of a node -/
def lv (vs : List Int) (n : Int) : Int := (0 :: vs).getD n.toNat 0
def kept (vs : List Int) (d : Df) : Bool := decide (lv vs d.1 - lv vs d.2.1 ≤ d.2.2)
def InR (n : Nat) (d : Df) : Prop := 0 ≤ d.1 ∧ d.1 ≤ n ∧ 0 ≤ d.2.1 ∧ d.2.1 ≤ n
theorem lv_at {vs : List Int} {n : Int} (h0 : 0 ≤ n) (h1 : n ≤ vs.length) : ((0 :: vs).map V.int)[n.toNat]? = some (.int (lv vs n)) := by
  have : n.toNat < (0 :: vs).length := by rw [List.length_cons]; omega
  rw [List.getElem?_map, List.getElem?_eq_getElem this]
  unfold lv
  rw [List.getD_eq_getElem?_getD, List.getElem?_eq_getElem this]
  rfl
section
variable {K : PySem.W.Frag} {H : Hp} {Q : VK} {a : Addr} {xs : List V} {x y z : V}
theorem ix_lv {vs : List Int} {n : Int} (hs : SqL K H a ((0 :: vs).map V.int)) (h0 : 0 ≤ n) (h1 : n ≤ vs.length) (h : Q (.int (lv vs n)) H) : rIx K (.ref a) (.int n) H Q := o_ixL hs (atI_of (j := n.toNat) (by omega) (lv_at h0 h1)) h
theorem b_allT (hs : SqL K H a xs) (hx : ∀ (j : Nat) (y : V), xs[j]? = some y → y = .bl true) (h : Q (.bl true) H) : rAll2 K [.ref a] H Q := by
  have e : xs = (List.replicate xs.length true).map V.bl := by
    refine List.ext_getElem? fun j => ?_
    rw [List.getElem?_map, List.getElem?_replicate]
    by_cases hj : j < xs.length
    · rw [if_pos hj, List.getElem?_eq_getElem hj, hx j _ (List.getElem?_eq_getElem hj)]
      rfl
    · rw [if_neg hj, List.getElem?_eq_none (by omega)]
      rfl
  rw [e] at hs
  refine b_all hs ?_
  have : (List.replicate xs.length true).all id = true := by simp
  rw [this]
  exact h
/-- all of truths that are known one by one -/
theorem b_allM {α : Type} {ds : List α} {f : α → Bool} (hs : SqL K H a (ds.map fun d => V.bl (f d))) (h : Q (.bl (ds.all f)) H) : rAll2 K [.ref a] H Q := by
  have e : ds.map (fun d => V.bl (f d)) = (ds.map f).map V.bl := by rw [List.map_map]; rfl
  rw [e] at hs
  refine b_all hs ?_
  have : (ds.map f).all id = ds.all f := by rw [List.all_map]; rfl
  rw [this]
  exact h
theorem b_len0 (hs : SqL K H a []) (h : Q (.int 0) H) : rLn K [.ref a] H Q := b_lenL hs h
theorem b_lenT0 (hs : SqT K H a []) (h : Q (.int 0) H) : rLn K [.ref a] H Q := b_lenT hs h
theorem b_lenT1 (hs : SqT K H a [x]) (h : Q (.int 1) H) : rLn K [.ref a] H Q := b_lenT hs h
theorem b_lenT2 (hs : SqT K H a [x, y]) (h : Q (.int 2) H) : rLn K [.ref a] H Q := b_lenT hs h
theorem b_lenT3 (hs : SqT K H a [x, y, z]) (h : Q (.int 3) H) : rLn K [.ref a] H Q := b_lenT hs h
end
def spIsInt : Sp := fun vs H Q _ => ∃ i : Int, vs = [.int i] ∧ Q (.bl true) H
/-- all differences kept by values -/
def spKept (K : PySem.W.Frag) : Sp := fun vs H Q _ => ∃ (a b : Addr) (us : List V) (ds : List Df) (vals : List Int), vs = [.ref a, .ref b] ∧ Sq K H a us ∧ TpAll H us (ds.map dfD) ∧ H b = some (.lst (vals.map V.int)) ∧ (∀ d ∈ ds, InR vals.length d) ∧
  ds.length ≤ 1000 ∧ vals.length ≤ 900 ∧ ∀ H', Same H H' → Q (.bl (ds.all (kept vals))) H'
end WS
/-! WC: sequences of either kind, and chains. -/
namespace WC
open PySem PySem.Spec PyProof.Rows L2 Wy WN WQ WS
abbrev tStar := StX.tStar
theorem pa_star {X : Cx} {e : Expr} {es : List Expr} {p : Pos} {te : TE} {t : TA} (he : PE X e te) (hr : PA X es t) (hs : starEach (.Starred e p :: es) X.env = (true, eval e X.env) :: starEach es X.env := by rfl) : PA X (.Starred e p :: es) (tStar X.K te t) := StX.pa_star he hr hs
theorem ixN_of {n : Nat} {k : Int} (h0 : 0 ≤ k) (h1 : k < n) : ixN n k = some k.toNat := by
  obtain ⟨j, rfl⟩ : ∃ j : Nat, k = j := ⟨k.toNat, by omega⟩
  rw [ixN_nat (by omega), Int.toNat_natCast]
theorem erase_perm {α : Type} : ∀ {xs : List α} {i : Nat} {x : α}, xs[i]? = some x → (x :: xs.eraseIdx i).Perm xs
  | [], _, _, h => by cases h
  | y :: xs, 0, x, h => by
    cases h
    exact .refl _
  | y :: xs, i + 1, x, h => (List.Perm.swap y x _).trans ((erase_perm (xs := xs) (i := i) h).cons y)
theorem take_sum1 {ws : List Int} {i : Nat} {w : Int} (h : ws[i]? = some w) : (ws.take (i + 1)).sum = (ws.take i).sum + w := by
  rw [List.take_succ, h, List.sum_append]
  simp
theorem nd_inj {α : Type} {xs : List α} {i j : Nat} {x : α} (nd : xs.Nodup) (h1 : xs[i]? = some x) (h2 : xs[j]? = some x) : i = j := by
  have l1 := (List.getElem?_eq_some_iff.mp h1).1
  exact (List.getElem?_inj l1 nd).mp (h1.trans h2.symm)
theorem tpIns {H : Hp} {v : V} {d : PyData} : ∀ {i : Nat} {us : List V} {ds : List PyData}, TpAll H us ds → Tp H v d → TpAll H (us.take i ++ [v] ++ us.drop i) (ds.take i ++ [d] ++ ds.drop i)
  | 0, us, ds, t, h => .cons h t
  | i + 1, _, _, .nil, h => .cons h .nil
  | i + 1, _, _, .cons a b, h => .cons a (tpIns (i := i) b h)
theorem tpTake {H : Hp} : ∀ {i : Nat} {us : List V} {ds : List PyData}, TpAll H us ds → TpAll H (us.take i) (ds.take i)
  | 0, us, ds, t => .nil
  | i + 1, _, _, .nil => .nil
  | i + 1, _, _, .cons a b => .cons a (tpTake (i := i) b)
theorem tpRev {H : Hp} : ∀ {us : List V} {ds : List PyData}, TpAll H us ds → TpAll H us.reverse ds.reverse
  | _, _, .nil => .nil
  | _, _, .cons a b => by
    rw [List.reverse_cons, List.reverse_cons]
    exact tpSnoc (tpRev b) a
section
variable {X : Cx}
theorem pe_bmK {K : PySem.W.Frag} {o e : Expr} {es : List Expr} {to : TE} {t : TA} {name : Str} {apos cpos : Pos} {T id : String} {r : V → List V → Hp → VK → Prop}
    (pa : PlainAttrs T) (slot : Slot T name id) (hty : typeOf (.builtin id) = pure (.type "method_descriptor")) (hm : MtR X id r) (ho : PE X o to) (ha : PA X (e :: es) t) (hK : X.K = K := by rfl)
    (hbase : attributeBase o name X.env (eval o X.env) = eval o X.env := by rfl)
    (hfew : ((backTo cpos (starEach (e :: es) X.env)).all (fun x => !x.1) && (backToKw cpos (keywordEach [] X.env)).all (fun x => x.1.isSome)
      && decide ((e :: es).length + ([] : List Keyword).length + (if ([] : List Keyword).isEmpty then 0 else 1) < 30)) = true := by rfl)
    (hline : (apos.endLine == cpos.line) = true := by rfl) (hs : starEach (e :: es) X.env = (false, eval e X.env) :: starEach es X.env := by rfl) (hplain : (backTo cpos (starEach es X.env)).any (·.1) = false := by rfl) :
    PE X (.Call (.Attribute o name apos) (e :: es) [] cpos) (tBM K T r to t) := hK ▸ pe_bm pa slot hty hm ho ha hbase hfew hline hs hplain
def rSl3 (K : PySem.W.Frag) : V → Option Int → Option Int → Hp → VK → Prop := fun x lo hi H Q => rSl2 K x lo hi H Q ∨ rSlA K x lo hi H Q
theorem sl_3 : SlR X (rSl3 X.K) := sl_2.or sl_tupA
def rIns : V → List V → Hp → VK → Prop := fun x vs H Q => ∃ (l : Addr) (xs : List V) (i : Int) (y : V), x = .ref l ∧ vs = [.int i, y] ∧ H l = some (.lst xs) ∧ xs.length < sizeLine ∧ 0 ≤ i ∧ i < 2 ^ 63 ∧ Q .non (upd H l (.lst (xs.take i.toNat ++ [y] ++ xs.drop i.toNat)))
theorem mt_insert2 : MtR X "list.insert" rIns := mt_insert
end
section
variable {K : PySem.W.Frag} {σ : L2.St} {H : Hp} {Q : VK} {QT : Bool → Hp → Prop} {te : TE} {tr : TA} {v x y : V} {QA : List V → Hp → Prop} {a : Addr} {xs : List V}
def KSt (K : PySem.W.Frag) (x : V) (t : TA) (σ : L2.St) (H : Hp) (QA : List V → Hp → Prop) : Prop := ∃ p xs, x = V.ref p ∧ (SqT K H p xs ∨ SqL K H p xs) ∧ t σ H fun ys H2 => QA (xs ++ ys) H2
theorem a_star (h : te σ H fun x H1 => KSt K x tr σ H1 QA) : tStar K te tr σ H QA := h
theorem k_st (hs : Sq K H a xs) (h : tr σ H fun ys H2 => QA (xs ++ ys) H2) : KSt K (.ref a) tr σ H QA := ⟨a, xs, rfl, hs.symm, h⟩
theorem k_trQ (hs : Sq K H a xs) (h : QT (!xs.isEmpty) H) : KTr K (.ref a) H QT := hs.elim (fun s => k_trL s h) fun s => k_trT s h
theorem b_lenQ (hs : Sq K H a xs) (h : Q (.int xs.length) H) : rLn K [.ref a] H Q := hs.elim (fun s => b_lenL s h) fun s => b_lenT s h
theorem o_ixQ {j : Int} (hs : Sq K H a xs) (e : atI xs j = some v) (h : Q v H) : rIx K (.ref a) (.int j) H Q := hs.elim (fun s => o_ixL s e h) fun s => o_ixT s e h
theorem ix_intQ {ns : List Int} {i : Int} (hs : Sq K H a (ns.map V.int)) (h0 : 0 ≤ i) (h1 : i < ns.length) (h : ∀ x : Int, ns[i.toNat]? = some x → Q (.int x) H) : rIx K (.ref a) (.int i) H Q := by
  have e := List.getElem?_eq_getElem (l := ns) (i := i.toNat) (by omega)
  exact o_ixQ hs (atI_of (j := i.toNat) (by omega) (v := .int ns[i.toNat]) (by rw [List.getElem?_map, e]; rfl)) (h _ e)
theorem m_ins {i : Int} (e : H a = some (.lst xs)) (hz : xs.length < sizeLine) (h0 : 0 ≤ i) (h1 : i ≤ xs.length) (h : ∀ H2, Chg a H H2 → H2 a = some (.lst (xs.take i.toNat ++ [y] ++ xs.drop i.toNat)) → Q .non H2) : rIns (.ref a) [.int i, y] H Q :=
  ⟨a, xs, i, y, rfl, rfl, e, hz, h0, by have : sizeLine = 16777216 := sizeLine_eq; omega, h _ chg_upd upd_same⟩
theorem m_popI {i : Int} (e : H a = some (.lst xs)) (hz : xs.length < sizeLine) (h0 : 0 ≤ i) (h1 : i < xs.length) (g : xs[i.toNat]? = some y) (h : ∀ H2, Chg a H H2 → H2 a = some (.lst (xs.eraseIdx i.toNat)) → Q y H2) : rPopAt (.ref a) [.int i] H Q := by
  have hs : sizeLine = 16777216 := sizeLine_eq
  refine ⟨a, xs, i, i.toNat, y, rfl, rfl, e, by omega, by omega, ?_, g, h _ chg_upd upd_same⟩
  unfold seqIndex?
  have : ¬ i < 0 := by omega
  simp [this, h0, h1]
/-- v[1:] of either kind, walked -/
theorem cut1 (xs : List V) : cutV xs (some 1) none = xs.drop 1 := by
  unfold cutV
  rw [show (1 : Int) = ((1 : Nat) : Int) from rfl, HT.sIx_nat]
  simp [HT.sIx]
  cases xs with
  | nil => rfl
  | cons x r => simp
theorem w_cut1 {b : Addr} {n : V} {r : List V} {i : Nat} {R : It → Hp → Prop} (hs : Sq K H b (n :: r)) (e : σ[i]? = some (some (.ref b))) (h : ∀ J p H2, Same H H2 → SqIt K p r J H2 → R J H2) :
    iSeq K (tSl (rSl3 K) (tVar i) (tPart (tC (.int 1))) tNoPart) σ H R := by
  have e1 : cutV (n :: r) (some 1) none = r := by rw [cut1]; rfl
  rcases hs with hs | hs
  · refine .inl (w_l (e_sl (e_var e (p_so (e_c (k_int (p_no ?_)))))))
    refine .inl (l_L hs fun p H2 np s2 e2 => ?_)
    rw [e1] at e2
    exact k_l (lst_of e2) (h _ p _ s2 (.inl ⟨rfl, lst_of e2⟩))
  · refine .inr (w_t (e_sl (e_var e (p_so (e_c (k_int (p_no ?_)))))))
    refine .inr ⟨b, n :: r, rfl, hs, fun c => ?_, fun _ => new_same (Q := fun x H1 => Wy.KT K x H1 R) fun p H2 np s2 e2 => ?_⟩
    · have := c.1
      rw [show (1 : Int) = ((1 : Nat) : Int) from rfl, HT.sIx_nat, List.length_cons] at this
      omega
    · rw [e1] at e2
      exact k_t (tup_of e2) (h _ p _ s2 (.inr ⟨rfl, tup_of e2⟩))
end
/-! ### chains -/
def dsAt (ds : List Df) (n : Int) : Df := ds.getD n.toNat (0, 0, 0)
def inB (m : Nat) (n : Int) : Bool := decide (0 ≤ n) && decide (n < (m : Int))
def runC : Df → List Df → Option Df
  | t, [] => some t
  | t, d :: r => if d.1 = t.2.1 then runC (t.1, d.2.1, t.2.2 + d.2.2) r else none
def csum (ds : List Df) : List Int → Option Df
  | [] => none
  | n :: r => if (n :: r).all (inB ds.length) = true then runC (dsAt ds n) (r.map (dsAt ds)) else none
def ringB (ds : List Df) (ns : List Int) : Bool := match csum ds ns with
  | none => false
  | some t => decide (t.1 = t.2.1) && decide (t.2.2 < 0)
def floorV (ds : List Df) (ns : List Int) (k : Int) : Option Int := match csum ds ns with
  | none => none
  | some t => if t.1 = 0 ∧ t.2.1 = k then some (-t.2.2) else none
theorem csum_cons {ds : List Df} {n : Int} {r : List Int} : csum ds (n :: r) = if (n :: r).all (inB ds.length) = true then runC (dsAt ds n) (r.map (dsAt ds)) else none := rfl
theorem ringB_none {ds : List Df} {ns : List Int} (e : csum ds ns = none) : ringB ds ns = false := by
  unfold ringB
  rw [e]
theorem ringB_some {ds : List Df} {ns : List Int} {t : Df} (e : csum ds ns = some t) : ringB ds ns = (decide (t.1 = t.2.1) && decide (t.2.2 < 0)) := by
  unfold ringB
  rw [e]
theorem floorV_none {ds : List Df} {ns : List Int} {k : Int} (e : csum ds ns = none) : floorV ds ns k = none := by
  unfold floorV
  rw [e]
theorem floorV_some {ds : List Df} {ns : List Int} {t : Df} {k : Int} (e : csum ds ns = some t) : floorV ds ns k = if t.1 = 0 ∧ t.2.1 = k then some (-t.2.2) else none := by
  unfold floorV
  rw [e]
inductive Path : List Df → Int → Int → Int → Prop
  | nil {u : Int} : Path [] u u 0
  | cons {r : List Df} {u v z c s : Int} : Path r v z s → Path ((u, v, c) :: r) u z (c + s)
theorem Path.app {b : List Df} {z t : Int} : ∀ {a : List Df} {u v s : Int}, Path a u v s → Path b v z t → Path (a ++ b) u z (s + t)
  | _, _, _, _, .nil, h => by
    rw [Int.zero_add]
    exact h
  | _, _, _, _, .cons p, h => by
    rw [Int.add_assoc]
    exact .cons (p.app h)
theorem Path.split {b : List Df} {z : Int} : ∀ {a : List Df} {u s : Int}, Path (a ++ b) u z s → ∃ m s1 s2, Path a u m s1 ∧ Path b m z s2 ∧ s = s1 + s2
  | [], u, s, h => ⟨u, 0, s, .nil, h, by omega⟩
  | d :: a, u, s, h => by
    cases h with
    | cons p =>
      obtain ⟨m, s1, s2, h1, h2, e⟩ := p.split
      exact ⟨m, _, s2, .cons h1, h2, by omega⟩
theorem Path.one {u v c : Int} : Path [(u, v, c)] u v c := by
  have := Path.cons (u := u) (c := c) (Path.nil (u := v))
  rwa [Int.add_zero] at this
theorem run_path {f : Int} : ∀ {es : List Df} {l z s t : Int}, Path es l z s → runC (f, l, t) es = some (f, z, t + s)
  | _, _, _, _, t, .nil => by rw [Int.add_zero]; rfl
  | _, _, _, _, t, .cons p => by
    unfold runC
    rw [if_pos rfl, run_path p]
    simp only [Option.some.injEq, Prod.mk.injEq, true_and]
    omega
theorem csum_path {ds : List Df} {ns : List Int} {u z s : Int} (h : ∀ n ∈ ns, 0 ≤ n ∧ n < ds.length) (p : Path (ns.map (dsAt ds)) u z s) (ne : ns ≠ []) : csum ds ns = some (u, z, s) := by
  cases ns with
  | nil => exact absurd rfl ne
  | cons n r =>
    show (if (n :: r).all (inB ds.length) = true then runC (dsAt ds n) (r.map (dsAt ds)) else none) = _
    rw [if_pos (List.all_eq_true.mpr fun x hx => by
      obtain ⟨h1, h2⟩ := h x hx
      unfold inB
      rw [decide_eq_true h1, decide_eq_true h2]
      rfl)]
    rw [List.map_cons] at p
    generalize dsAt ds n = d at p
    obtain ⟨a, b, c⟩ := d
    cases p with
    | cons p => exact run_path p
theorem kept_path {vs : List Int} : ∀ {es : List Df} {u z s : Int}, Path es u z s → (∀ d ∈ es, kept vs d = true) → lv vs u - lv vs z ≤ s
  | _, _, _, _, .nil, _ => by omega
  | _, u, z, _, .cons (v := v) (c := c) p, h => by
    have h1 := kept_path p fun d hd => h d (List.mem_cons_of_mem _ hd)
    have h2 := of_decide_eq_true (h (u, v, c) List.mem_cons_self)
    simp only at h2
    omega
theorem path_of (nd ws : Nat → Int) : ∀ n : Nat, Path ((List.range n).map fun k => (nd k, nd (k + 1), ws k)) (nd 0) (nd n) (((List.range n).map ws).sum)
  | 0 => .nil
  | n + 1 => by
    rw [List.range_succ, List.map_append, List.map_append, List.sum_append]
    refine (path_of nd ws n).app ?_
    simp only [List.map_cons, List.map_nil, List.sum_cons, List.sum_nil, Int.add_zero]
    exact Path.one
theorem path_rot {es : List Df} {u s : Int} (k : Nat) (p : Path es u u s) : ∃ m, Path (es.drop k ++ es.take k) m m s := by
  rw [← List.take_append_drop k es] at p
  obtain ⟨m, s1, s2, h1, h2, e⟩ := p.split
  refine ⟨m, ?_⟩
  rw [e, Int.add_comm]
  exact h2.app h1
theorem take_sum {ws : List Int} {n : Nat} (h : n ≤ ws.length) : (List.range n).map (fun k => ws.getD k 0) = ws.take n := by
  refine List.ext_getElem? fun j => ?_
  rw [List.getElem?_map, List.getElem?_take]
  by_cases hj : j < n
  · rw [List.getElem?_range hj, if_pos hj, List.getElem?_eq_getElem (by omega)]
    show some (ws.getD j 0) = _
    rw [List.getD_eq_getElem?_getD, List.getElem?_eq_getElem (by omega)]
    rfl
  · rw [List.getElem?_eq_none (by rw [List.length_range]; omega), if_neg hj]
    rfl
section
variable {K : PySem.W.Frag}
/-- the sum of a chain -/
def spChain (K : PySem.W.Frag) : Sp := fun vs H Q _ => ∃ (a b : Addr) (us : List V) (ds : List Df) (ns : List Int), vs = [.ref a, .ref b] ∧ Sq K H a us ∧ TpAll H us (ds.map dfD) ∧ Sq K H b (ns.map V.int) ∧ ds.length ≤ 1000 ∧ ns.length ≤ 1000 ∧
  (csum ds ns = none → ∀ H', Same H H' → Q .non H') ∧ ∀ t : Df, csum ds ns = some t → ∀ p H', Same H H' → H p = none → H' p = some (.tup [.int t.1, .int t.2.1, .int t.2.2]) → Q (.ref p) H'
def spRing (K : PySem.W.Frag) : Sp := fun vs H Q _ => ∃ (a b : Addr) (us : List V) (ds : List Df) (ns : List Int), vs = [.ref a, .ref b] ∧ Sq K H a us ∧ TpAll H us (ds.map dfD) ∧ Sq K H b (ns.map V.int) ∧ ds.length ≤ 1000 ∧ ns.length ≤ 1000 ∧
  ∀ H', Same H H' → Q (.bl (ringB ds ns)) H'
def oI : Option Int → V
  | none => .non
  | some i => .int i
def spFloor (K : PySem.W.Frag) : Sp := fun vs H Q _ => ∃ (a b : Addr) (us : List V) (ds : List Df) (ns : List Int) (k : Int), vs = [.ref a, .ref b, .int k] ∧ Sq K H a us ∧ TpAll H us (ds.map dfD) ∧ Sq K H b (ns.map V.int) ∧ ds.length ≤ 1000 ∧ ns.length ≤ 1000 ∧
  ∀ H', Same H H' → Q (oI (floorV ds ns k)) H'
def spKeeps (K : PySem.W.Frag) : Sp := fun vs H Q _ => ∃ (a b : Addr) (us : List V) (ds : List Df) (vals : List Int), vs = [.ref a, .ref b] ∧ Sq K H a us ∧ TpAll H us (ds.map dfD) ∧ Sq K H b (vals.map V.int) ∧ (∀ d ∈ ds, InR vals.length d) ∧
  ds.length ≤ 1000 ∧ vals.length ≤ 900 ∧ ∀ H', Same H H' → Q (.bl (ds.all (kept vals))) H'
def spTells : Sp := fun vs H Q _ => ∃ x y : Bool, vs = [.bl x, .bl y] ∧ Q (.bl (decide (x = y))) H
def spWt : Sp := fun vs H Q _ => ∃ d : Int, vs = [.int d] ∧ ∀ r : Int, Q (.int r) H
def spDiffs (K : PySem.W.Frag) : Sp := fun vs H Q _ => ∃ (a : Addr) (zs : List Int) (pl : Int) (n m : Nat), vs = [.ref a, .int pl, .int n, .int m] ∧ SqL K H a (zs.map V.int) ∧ n ≤ 100 ∧ m ≤ 1000 ∧
  ∀ p us H' ds, Same H H' → H p = none → H' p = some (.lst us) → TpAll H' us ((ds : List Df).map dfD) → ds.length = n → (∀ d ∈ ds, InR m d) → Q (.ref p) H'
end
end WC
/-! WE: comprehensions of the laws. -/
namespace WE
open PySem PySem.Spec PyProof.Rows L2 Wy WN WQ WS WC
section
variable {K : PySem.W.Frag} {σ : L2.St} {H : Hp} {Q : VK} {te : TE} {vs : List Nat} {i : Nat} {a : Addr}
/-- one value again and again -/
theorem c_const {lo : Int} {n : Nat} {v : V} (hte : ∀ σ H (N : VK), N v H → te σ H N) (hz : n ≤ 100000) (hw : ∀ x, wipe ((wipe σ vs).set i (some x)) vs = wipe σ vs) (post : ∀ D H2, H D = none → Same H H2 → H2 D = some (.lst (List.replicate n v)) → Q (.ref D) H2) :
    LoopC (Itr lo n) (gName i) tYes te vs σ H Q := by
  refine c_accR (One fun _ y _ => y = v) (fun _ _ _ _ _ h => h) (fun i acc H hi h => small1000' (by rw [h.1]; omega)) One.zero (fun j H1 acc N M hj s1 o hN hM => ?_) (fun D H1 ys nD s1 e1 o => ?_)
  · refine g_name ⟨hw _, t_yes ?_⟩
    exact iteTT rfl (hte _ _ _ (hN _ _ (Same.refl _) (o.snoc (fun _ _ h => h) rfl)))
  · rw [o.const] at e1
    exact post D H1 nD s1 e1
theorem c_constI {lo : Int} {n : Nat} {c : Int} (hte : ∀ σ H (N : VK), N (.int c) H → te σ H N) (hz : n ≤ 100000) (hw : ∀ x, wipe ((wipe σ vs).set i (some x)) vs = wipe σ vs) (post : ∀ D H2, H D = none → Same H H2 → H2 D = some (.lst ((List.replicate n c).map V.int)) → Q (.ref D) H2) :
    LoopC (Itr lo n) (gName i) tYes te vs σ H Q := c_const hte hz hw fun D H2 nD s e => post D H2 nD s (by rw [List.map_replicate]; exact e)
/-- an int from each int -/
theorem c_ints {xs : List Int} (hs : SqL K H a (xs.map V.int)) (hte : ∀ (x : Int) H (N : VK), (∀ r : Int, N (.int r) H) → te ((wipe σ vs).set i (some (.int x))) H N) (hz : xs.length ≤ 100000) (hw : ∀ x, wipe ((wipe σ vs).set i (some x)) vs = wipe σ vs)
    (post : ∀ D H2 (rs : List Int), H D = none → Same H H2 → rs.length = xs.length → H2 D = some (.lst (rs.map V.int)) → Q (.ref D) H2) : LoopC (Itl K a) (gName i) tYes te vs σ H Q := by
  refine c_acc (xs := xs.map V.int) (.inl ⟨rfl, hs⟩) (One fun _ y _ => ∃ r : Int, y = .int r) (fun _ _ _ _ _ h => h) (fun i acc H hi h => small1000' (by rw [h.1]; rw [List.length_map] at hi; omega)) One.zero (fun j x H1 acc N M hx s1 o hN hM => ?_) (fun D H1 ys nD s1 e1 o => ?_)
  · rw [List.getElem?_map] at hx
    obtain ⟨d, gd, rfl⟩ := Option.map_eq_some_iff.mp hx
    refine g_name ⟨hw _, t_yes ?_⟩
    exact iteTT rfl (hte _ _ _ fun r => hN _ _ (Same.refl _) (o.snoc (fun _ _ h => h) ⟨r, rfl⟩))
  · rw [List.length_map] at o
    obtain ⟨rs, rfl, lr⟩ := o.ints fun _ _ _ h => h
    exact post D H1 rs nD s1 lr e1
/-- ints by place -/
theorem c_rng {lo : Int} {n : Nat} (F : Nat → Int) (hte : ∀ (j : Nat) H (N : VK), j < n → N (.int (F j)) H → te ((wipe σ vs).set i (some (.int (lo + j)))) H N) (hz : n ≤ 100000) (hw : ∀ x, wipe ((wipe σ vs).set i (some x)) vs = wipe σ vs)
    (post : ∀ D H2, H D = none → Same H H2 → H2 D = some (.lst (((List.range n).map F).map V.int)) → Q (.ref D) H2) : LoopC (Itr lo n) (gName i) tYes te vs σ H Q := by
  refine c_accR (One fun j y _ => y = .int (F j)) (fun _ _ _ _ _ h => h) (fun i acc H hi h => small1000' (by rw [h.1]; omega)) One.zero (fun j H1 acc N M hj s1 o hN hM => ?_) (fun D H1 ys nD s1 e1 o => ?_)
  · refine g_name ⟨hw _, t_yes ?_⟩
    exact iteTT rfl (hte _ _ _ hj (hN _ _ (Same.refl _) (o.snoc (fun _ _ h => h) rfl)))
  · have ey := o.eqR fun j y _ h => h
    rw [ey] at e1
    exact post D H1 nD s1 (by rw [List.map_map]; exact e1)
/-- one datum by place -/
theorem c_tps {lo : Int} {n : Nat} (F : Nat → PyData) (hte : ∀ (j : Nat) H1 (N : VK), j < n → Same H H1 → (∀ y H3, Same H1 H3 → Tp H3 y (F j) → N y H3) → te ((wipe σ vs).set i (some (.int (lo + j)))) H1 N) (hz : n ≤ 100000) (hw : ∀ x, wipe ((wipe σ vs).set i (some x)) vs = wipe σ vs)
    (post : ∀ D H2 us, H D = none → Same H H2 → H2 D = some (.lst us) → TpAll H2 us ((List.range n).map F) → Q (.ref D) H2) : LoopC (Itr lo n) (gName i) tYes te vs σ H Q := by
  refine c_accR (One fun j y H => Tp H y (F j)) (fun i acc H H' k h => ⟨h.1, fun j y e => (h.2 j y e).tk k⟩) (fun i acc H hi h => small1000' (by rw [h.1]; omega)) One.zero (fun j H1 acc N M hj s1 o hN hM => ?_) (fun D H1 ys nD s1 e1 o => ?_)
  · refine g_name ⟨hw _, t_yes ?_⟩
    exact iteTT rfl (hte _ _ _ hj s1 fun y H3 s3 t => hN _ _ s3 (o.snoc (fun _ _ h => h.tk s3.tk) t))
  · exact post D H1 ys nD s1 e1 (tpOne o fun j y _ h => h)
theorem c_rngV {lo : Int} {n : Nat} (F : Nat → V) (hte : ∀ (j : Nat) H (N : VK), j < n → (∀ H3, Same H H3 → N (F j) H3) → te ((wipe σ vs).set i (some (.int (lo + j)))) H N) (hz : n ≤ 100000) (hw : ∀ x, wipe ((wipe σ vs).set i (some x)) vs = wipe σ vs)
    (post : ∀ D H2, H D = none → Same H H2 → H2 D = some (.lst ((List.range n).map F)) → Q (.ref D) H2) : LoopC (Itr lo n) (gName i) tYes te vs σ H Q := by
  refine c_accR (One fun j y _ => y = F j) (fun _ _ _ _ _ h => h) (fun i acc H hi h => small1000' (by rw [h.1]; omega)) One.zero (fun j H1 acc N M hj s1 o hN hM => ?_) (fun D H1 ys nD s1 e1 o => ?_)
  · refine g_name ⟨hw _, t_yes ?_⟩
    exact iteTT rfl (hte _ _ _ hj (fun H3 s3 => hN _ _ s3 (o.snoc (fun _ _ h => h) rfl)))
  · have ey := o.eqR fun j y _ h => h
    rw [ey] at e1
    exact post D H1 nD s1 e1
def KRev (K : PySem.W.Frag) (x : V) (H : Hp) (Q : VK) : Prop := ∃ a xs, x = V.ref a ∧ SqL K H a xs ∧ ∀ p, H p = none → Q (.ref p) (upd H p (.lst xs.reverse))
theorem e_revL (h : te σ H fun x H1 => KRev K x H1 Q) : tRevL K te σ H Q := h
theorem k_rev {xs : List V} (e : H a = some (.lst xs)) (h : ∀ p H2, H p = none → Same H H2 → H2 p = some (.lst xs.reverse) → Q (.ref p) H2) : KRev K (.ref a) H Q := ⟨a, xs, rfl, lst_of e, new_same h⟩
theorem ix_pick {c : Bool} {u v : V} (e : H a = some (.lst [u, v])) (h : Q (if c then v else u) H) : rIx K (.ref a) (.int (if c = true then 1 else 0)) H Q := by
  cases c with
  | true => exact o_ixL (lst_of e) (v := v) rfl h
  | false => exact o_ixL (lst_of e) (v := u) rfl h
theorem o_isB {a b : Bool} (h : Q (.bl (decide (a = b))) H) : rIsB (.bl a) (.bl b) H Q := ⟨a, b, rfl, rfl, h⟩
theorem o_ntB {a b : Bool} (h : Q (.bl (!decide (a = b))) H) : rNotB (.bl a) (.bl b) H Q := ⟨a, b, rfl, rfl, h⟩
theorem cutTo (xs : List V) {i : Int} (h : 0 ≤ i) : cutV xs none (some i) = xs.take i.toNat := by
  obtain ⟨k, rfl⟩ : ∃ k : Nat, i = k := ⟨i.toNat, by omega⟩
  unfold cutV
  rw [HT.sIx_nat, HT.sIx_none, List.drop_zero, Nat.sub_zero, Int.toNat_natCast]
  by_cases hk : k ≤ xs.length
  · rw [Nat.min_eq_left hk]
  · rw [Nat.min_eq_right (by omega), List.take_of_length_le (Nat.le_refl _), List.take_of_length_le (by omega)]
theorem cutFrom (xs : List V) {i : Int} (h : 0 ≤ i) : cutV xs (some i) none = xs.drop i.toNat := by
  obtain ⟨k, rfl⟩ : ∃ k : Nat, i = k := ⟨i.toNat, by omega⟩
  unfold cutV
  rw [HT.sIx_nat, HT.sIx_none, Int.toNat_natCast]
  by_cases hk : k ≤ xs.length
  · rw [Nat.min_eq_left hk, List.take_of_length_le (by rw [List.length_drop]; omega)]
  · rw [Nat.min_eq_right (by omega), List.drop_of_length_le (Nat.le_refl _), List.drop_of_length_le (by omega)]
    simp
theorem ne_ints {H : Hp} {a b v : Addr} {rs : List V} {xs : List Int} (h1 : H a = some (.lst (.ref v :: rs))) (h2 : H b = some (.lst (xs.map V.int))) : b ≠ a := by
  intro e
  subst e
  rw [h1] at h2
  cases xs <;> cases h2
end
end WE
/-! WG: defs that run while no repr is under way. -/
namespace WG
open PySem PySem.Spec PyProof.Rows L2 Wy WN WQ
/-- as FnOk, but from callers alone in which no repr is under way -/
structure FnG (P : Program) (w : World) (K : PySem.W.Frag) (mg : Str → Option Value) (base : Heap) (k : Nat) (f : Addr) (fd : FuncData) (ps : List Str) (sp : Sp) : Prop where
  len : ∀ vs H Q E, sp vs H Q E → vs.length = ps.length
  run : ∀ (A : Around) (outer : List Env) (s : Shared) (H : Hp) (args : Args) (us : List Value) (vs : List V) (Q : VK) (E : XK), Room k A → A.guards = some [] → Env0 P w K mg base A outer s H →
    BindsTo s fd args (ps.zip us) → Vals vs us → sp vs H Q E → codeAny (model P w) A (.call (.ref f) args) (CR CX0 outer P w H s Q E) s
section
variable {P : Program} {w : World} {K : PySem.W.Frag} {mg : Str → Option Value} {base : Heap} {k : Nat} {f : Addr} {x qual : Str} {st : Stmt} {N ps : List Str} {sp : Sp}
theorem fnG (fd : FuncData) (F : FunD K x qual (defArgs st) (defBody st) (defScope st) [] [] f fd) (S : FnScope N ps (defScope st)) (len : ∀ vs H Q E, sp vs H Q E → vs.length = ps.length)
    (body : ∀ (f : Addr) (cdv : Value) (A : Around) (outer : List Env) (s : Shared) (H : Hp) (vs : List V) (Q : VK) (E : XK), Room k (A.deeper (envOfC qual (defScope st) s.heap.objs.size f cdv)) → (A.deeper (envOfC qual (defScope st) s.heap.objs.size f cdv)).guards = some [] → sp vs H Q E →
      ∃ t, PSs (cxOf CX0 P w K mg base N qual (defScope st) f cdv A outer s H E).nox (defBody st) t ∧ t { nx := fun _ H' => Q .non H', rt := Q } (start N vs) H) : FnG P w K mg base (k + 1) f fd ps sp := by
  obtain ⟨oc, od, dV, kV, doc, pm, an, cdv, ct, osl, rfl, lk, hcd, _, _⟩ := F.ex
  constructor
  · exact len
  · intro A outer s H args us vs Q E room quiet env bd rel told
    have stays : ∀ (b : Addr) (o : Obj), base.get? b = some o → s.heap.get? b = some o := fun b o q => (env.bs b o q).1
    have count := len vs H Q E told
    have heap : K.In s.heap := env.mod.kin.keeps stays
    refine codeAny_call_function room.depth (heap _ _ lk) rfl S.co S.gen rfl (PySem.W.codeRec_of heap hcd) ?_
    refine bd _ _ _ _ (wpAny_newFunctionEnv_cells S.kind ?kinds fun e he s1 made => ?_)
    case kinds =>
      intro y hy
      cases S.par y.1 (List.of_mem_zip (a := y.1) (b := y.2) hy).1 with
      | inl q => exact Or.inl q
      | inr q => exact Or.inr (And.intro q (PySem.W.cellsFrom_some _ _ _ (Or.inl q)))
    subst he
    have nolim : s.heap.NoLimit := env.mod.nolimit.keeps stays
    refine And.intro (nolim.keeps made.toInCall.keep) (codeAny_func ?_)
    obtain ⟨t, d, rd⟩ := body f cdv A outer s H vs Q E (room.deeper _) (by exact quiet) told
    have inv := inv_start (CX := CX0) (E := E) S room.hd env count rel made
    have ran := (PSs.nox d).run [] s1 (start N vs) H _ inv rd
    refine wpAny_mono ran (fun fl s' out => ?_) (fun e s' out => out)
    match fl, out with
    | .ret u, ⟨v, _, H', J, r, z⟩ => exact ⟨v, H', J.os, J.bare, J.base, J.hok, r, z⟩
    | .next, ⟨_, H', J, z⟩ => exact ⟨.non, H', J.os, J.bare, J.base, J.hok, rfl, z⟩
    | .brk, ⟨_, _, _, z⟩ => exact z.elim
    | .cont, ⟨_, _, _, z⟩ => exact z.elim
/-- a def that may be called where no repr is under way -/
structure CalG (P : Program) (w : World) (K : PySem.W.Frag) (mg : Str → Option Value) (base : Heap) (k : Nat) (x : Str) (sp : Sp) : Prop where
  ex : ∃ (f : Addr) (fd : FuncData) (ps : List Str), FnG P w K mg base k f fd ps sp ∧ mg x = some (.ref f) ∧ PySem.W.keepIn K (.ref f) = true ∧ Binds K fd ps []
theorem cal_ofG (F : DefOk K mg x st) (S : FnScope N ps (defScope st)) (hb : ∀ f fd, FunD K x x (defArgs st) (defBody st) (defScope st) [] [] f fd → Binds K fd ps []) (len : ∀ vs H Q E, sp vs H Q E → vs.length = ps.length)
    (body : ∀ (f : Addr) (cdv : Value) (A : Around) (outer : List Env) (s : Shared) (H : Hp) (vs : List V) (Q : VK) (E : XK), Room k (A.deeper (envOfC x (defScope st) s.heap.objs.size f cdv)) → (A.deeper (envOfC x (defScope st) s.heap.objs.size f cdv)).guards = some [] → sp vs H Q E →
      ∃ t, PSs (cxOf CX0 P w K mg base N x (defScope st) f cdv A outer s H E).nox (defBody st) t ∧ t { nx := fun _ H' => Q .non H', rt := Q } (start N vs) H) : CalG P w K mg base (k + 1) x sp := by
  obtain ⟨f, fd, F, hm⟩ := F.ex
  exact ⟨f, fd, ps, fnG fd F S len body, hm, F.kp, hb f fd F⟩
end
section
variable {X : Cx} {k j : Nat} {x : Str} {sp : Sp} {p pos : Pos} {e : Expr} {es : List Expr} {t : TA}
theorem pe_cG (c : CalG X.prog X.w X.K X.mg X.base k x sp) (hr : Room j X.A) (hk : k ≤ j) (hq : X.A.guards = some []) (hg : Gl X x) (ha : PA X (e :: es) t) (hdb : (x == ("__debug__" : Str)) = false := by decide)
    (he : starEach (e :: es) X.env = (false, eval e X.env) :: starEach es X.env := by rfl) (hpl : (backTo pos (starEach es X.env)).any (·.1) = false := by rfl) : PE X (.Call (.Name x p) (e :: es) [] pos) (tCall sp [] C8.E0 t) := by
  obtain ⟨f, fd, ps, F, hm, kp, b⟩ := c.ex
  constructor
  intro pins s σ H Q I h
  refine wpAny_Call_Name_kw (ld_glob I hg hm ?_ hdb)
  refine PySem.W.callWith_K (h₀ := X.base) I.ok.mod.kin kp ?_ he hpl
  refine thn (ha.run pos pins s σ H _ I h) fun us s1 ⟨vs, H1, I1, r, q⟩ => And.intro I1.kIn ?_
  have q : sp (vs ++ []) H1 Q C8.E0 := q
  rw [List.append_nil] at q
  have fits : us.length = ps.length := r.length.symm.trans (F.len vs H1 Q C8.E0 q)
  have bt := b s1 us I1.kIn (by rw [List.append_nil]; exact fits)
  rw [List.append_nil] at bt
  refine wpAny_call (codeAny_mono (F.run X.A X.stack s1 H1 ⟨us, []⟩ us vs Q C8.E0 (hr.mono hk) hq I1.env0 bt r q) ?_)
  intro res s' out
  match res, out with
  | .error _, z => exact z.elim
  | .ok (.ret _), z => exact I1.after z
  | .ok .next, z => exact z.elim
  | .ok .brk, z => exact z.elim
  | .ok .cont, z => exact z.elim
theorem call_reprG (hq : X.A.guards = some []) (hu : X.A.units + 64 < cLine) : CallR X (.builtin "repr") (rRepr X.K) := by
  intro pins s σ H xs us Q I r h
  obtain ⟨a, d, rfl, hd, hs, hn, hdp, hz, q⟩ := h
  obtain ⟨u, eu, rx⟩ := vals1 r
  subst eu
  obtain rfl : u = Value.ref a := rx
  obtain ⟨as, rd⟩ := Dp.reads I d _ _ hd rfl
  refine repr_of_reads' (h₀ := s.heap) rd hs (fun z => by rw [hn] at z; cases z) hq (by omega) (fun _ _ e => e) (fun h' u tk keep => ?_) hz
  exact ⟨.str d.shown, H, I.kept keep, ⟨u, rfl⟩, q⟩
end
/-! ### the end -/
section
variable {P : Program} {w : World} {K : PySem.W.Frag} {mg mb : Str → Option Value} {k : Nat} {fa a : Addr} {fd : FuncData} {x : Str} {sp : Sp} {s : Shared} {vs : List Value} {ns : List Int}
/-- the entry of the law, over what is not tracked -/
theorem enter (kin : K.In s.heap) (glob : s.heap.Ns mainGlobals mg) (blt : s.heap.Ns builtinsNs mb) (boot : ∀ x : Str, x ≠ "__name__" → mb x = bootBuiltins x) (nolim : s.heap.NoLimit) (gens : s.gens = #[])
    (obj : s.heap.get? a = some { cls := .type "list", data := .seq vs.toArray }) {H : Hp} (hok : HOk P w H s.heap) (one : ∀ b, H b ≠ none → b = a) (own : H a ≠ none → K.lookup a = none) :
    Env0 P w K mg (hidT s.heap H) callerA [] s H := by
  have free : ∀ b : Addr, b ≠ a → H b = none := fun b n => Classical.byContradiction fun z => n (one b z)
  have spaces : ∀ {b : Addr} {m : Str → Option Value}, s.heap.Ns b m → (hidT s.heap H).Ns b m := by
    rintro b m ⟨o, es, ep, e, d, r⟩
    refine ⟨o, es, ep, hidT_get e (free b fun z => ?_), d, r⟩
    rw [z, obj] at e
    rw [← Option.some.inj e] at d
    cases d
  have frag : K.In (hidT s.heap H) := by
    intro b o e
    by_cases q : H b = none
    · exact hidT_get (kin b o e) q
    · rw [one b q] at e q
      rw [own q] at e
      cases e
  obtain ⟨mc, l1, l2⟩ := nolim
  constructor
  · rfl
  · exact { kin := frag, glob := spaces glob, blt := ⟨mb, spaces blt, boot⟩, nolimit := ⟨mc, spaces l1, l2⟩ }
  · exact fun b o e => of_hidT e
  · exact Nat.le_of_eq (hidT_size s.heap H)
  · trivial
  · intro b hb
    simp [frs] at hb
  · exact hok
  · exact .of_eq gens
theorem lawG (kin : K.In s.heap) (glob : s.heap.Ns mainGlobals mg) (blt : s.heap.Ns builtinsNs mb) (boot : ∀ x : Str, x ≠ "__name__" → mb x = bootBuiltins x) (nolim : s.heap.NoLimit) (gens : s.gens = #[])
    (obj : s.heap.get? a = some { cls := .type "list", data := .seq vs.toArray }) (inn : IntsAre vs ns) (few : ns.length ≤ sizeLine) (room : Room k callerA) (F : ∀ base : Heap, FnG P w K mg base k fa fd [x] sp)
    (bd : ∀ (s : Shared) (u : Value), BindsTo s fd ⟨[u], []⟩ [(x, u)]) (told : ∀ H : Hp, SqL K H a (ns.map V.int) → sp [.ref a] H (fun v _ => v = .bl true) fun _ _ _ => False) :
    codeAny (model P w) callerA (.call (.ref fa) ⟨[.ref a], []⟩) (fun r s' => r = .ok (.ret (.bool true)) ∧ OldK s.heap s'.heap ∧ s'.os = s.os ∧ AllBare s'.gens) s := by
  have rel := vals_ints inn
  have count := inn.length
  obtain ⟨H, hok, one, own, frz, seq⟩ : ∃ H : Hp, HOk P w H s.heap ∧ (∀ b, H b ≠ none → b = a) ∧ (H a ≠ none → K.lookup a = none) ∧ (∀ b u, H b = some u → ∃ o xs, u = .frz o (.lst xs)) ∧ SqL K H a (ns.map V.int) := by
    cases lk : K.lookup a with
    | some o =>
      have e := kin a o lk
      rw [obj] at e
      cases e
      refine ⟨fun _ => none, (fun b u z => by cases z), (fun b z => absurd rfl z), (fun z => absurd rfl z), (fun b u z => by cases z), .inr ⟨_, vs.toArray, _, lk, rfl, rfl, rfl, ?_, ?_⟩⟩
      · rw [List.size_toArray, count]
        exact few
      · simpa using rel
    | none =>
      let O : Obj := { cls := .type "list", data := .seq vs.toArray }
      have at_ : ∀ b u, (if b = a then some (HO.frz O (.lst (ns.map V.int))) else none) = some u → b = a ∧ u = .frz O (.lst (ns.map V.int)) := fun b u z => by
        by_cases q : b = a
        · rw [if_pos q] at z
          exact ⟨q, (Option.some.inj z).symm⟩
        · rw [if_neg q] at z
          cases z
      refine ⟨fun b => if b = a then some (.frz O (.lst (ns.map V.int))) else none, fun b u z => ?_, fun b z => ?_, fun _ => rfl, fun b u z => ⟨_, _, (at_ b u z).2⟩, .inl (.inr ⟨O, if_pos rfl⟩)⟩
      · obtain ⟨rfl, rfl⟩ := at_ b u z
        exact ⟨obj, by rw [List.length_map]; exact few, vs, _, rel, obj⟩
      · by_cases q : b = a
        · exact q
        · exact absurd (if_neg q) z
  have env := enter (P := P) (w := w) kin glob blt boot nolim gens obj hok one own
  refine codeAny_mono ((F _).run callerA [] s H ⟨[.ref a], []⟩ [.ref a] [.ref a] _ _ room rfl env (bd s (.ref a)) (.cons rfl .nil) (told H seq)) ?_
  intro res s' out
  match res, out with
  | .error _, z => exact z.elim
  | .ok .next, z => exact z.elim
  | .ok .brk, z => exact z.elim
  | .ok .cont, z => exact z.elim
  | .ok (.ret u), ⟨v, H', os, bare, un, hok', r, z⟩ =>
    obtain rfl : v = .bl true := z
    obtain rfl : u = Value.bool true := r
    refine ⟨rfl, OldK.of_keep fun b o e => ?_, os, bare⟩
    cases q : H b with
    | none => exact un.keep b o e q (by simp [frs]) (by simp)
    | some u =>
      obtain ⟨ob, xs, rfl⟩ := frz b u q
      have before := (hok b _ q).1
      rw [e] at before
      rw [Option.some.inj before]
      exact (hok' b _ (un.frzs b ob _ q)).1
theorem walkG {l : PySem.W.OpenLaw} {n : Nat} {q : Program} {loose : List Str} {XP : (Str → Option Value) → Heap → Prop} {YP : World → Heap → Prop} {d : DefRec} (most : l.most = some n) (small : n ≤ sizeLine) (plain : d.params.defaults = []) (room : Room k callerA)
    (F : ∀ (w : World) (mg : Str → Option Value) (fa : Addr) (h : Heap), YP w h → h.Ns mainGlobals mg → mg d.name = some (.ref fa) → ∃ (K : PySem.W.Frag) (fd : FuncData) (sp : Sp), K.In h ∧ (∀ (s : Shared) (u : Value), BindsTo s fd ⟨[u], []⟩ [(x, u)]) ∧
      (∀ (H : Hp) (a : Addr) (ns : List Int), ns.length ≤ n → SqL K H a (ns.map V.int) → sp [.ref a] H (fun v _ => v = .bl true) fun _ _ _ => False) ∧ ∀ base : Heap, FnG l.prog w K mg base k fa fd [x] sp) :
    PySem.W.WalkO q loose XP YP l.row.toRowW d [] (fun f vs => PySem.call f vs) := by
  refine Att.attach_call most plain ?_
  intro w s₀ s₁ mg mb fa o pm cd doc a vs ns G Y ho hd hcd hmg obj inn len gens
  obtain ⟨K, fd, sp, kin, bd, told, fs⟩ := F w mg fa _ Y G.T.g hmg
  exact lawG kin G.T.g G.T.b G.T.builtins G.T.nolimit gens obj inn (Nat.le_trans len small) room fs bd fun H hS => told H a ns len hS
end
end WG
/-! WL: a lambda of one parameter that is handed on, with one captured name. -/
namespace WL
open PySem PySem.Spec PyProof.Rows L2 Wy LamX
/-- a lambda that was made -/
structure Jd where
  f : Addr
  c' : Addr
  q : Str
  params : Arguments
  body : Expr
  scope : Scope
  cl : List (Str × Addr)
  pm : Value
  ctv : Value
  x : Str
  z : Str
  cz : Addr
  pv : V
abbrev Jd.fd (J : Jd) : FuncData := PySem.W.kla_fn "<lambda>" J.q J.params J.body J.scope J.cl J.pm (.ref J.c') J.ctv
abbrev Jd.ob (J : Jd) : Obj := PySem.W.kla_obj "<lambda>" J.q J.params J.body J.scope J.cl J.pm J.c' J.ctv
/-- its names: the parameter and the captured one -/
structure Jd.Ok (J : Jd) : Prop where
  kind : J.scope.kind = .function
  co : J.scope.isCoroutine = false
  gen : J.scope.isGenerator = false
  ne : J.x ≠ J.z
  hx : J.scope.names.lookup J.x = some .local
  nocell : ∀ y ∈ J.scope.names, y.2 ≠ .cell
  own : ∀ y, J.scope.names.lookup y = some .local → y = J.x
  free : ∀ y, J.scope.names.lookup y = some .free → y = J.z
  cl1 : ∀ y c, J.cl.lookup y = some c → y = J.z ∧ c = J.cz
  cl2 : J.cl.lookup J.z = some J.cz
  bind : ∀ u : Value, bindArgs J.fd ⟨[u], []⟩ = pure [(J.x, u)]
/-- it stands in the heap -/
structure There (J : Jd) (s : Shared) (H : Hp) (fs : List Addr) : Prop where
  ob : s.heap.get? J.f = some J.ob
  nH : H J.f = none
  nf : J.f ∉ fs
  cell : ∃ u, RelV J.pv u ∧ s.heap.IsCell J.cz (some u)
  nC : H J.cz = none
  code : H J.c' = some (CodeO J.c' J.q)
theorem There.step {J : Jd} {s s' : Shared} {H H' : Hp} {fs fs' : List Addr} (t : There J s H fs) (u : Un fs [] H H' s.heap s'.heap) (hc : H' J.c' = some (CodeO J.c' J.q)) (hn : J.f ∉ fs') : There J s' H' fs' := by
  obtain ⟨v, r, o, ho, hd⟩ := t.cell
  obtain ⟨sl, q⟩ := u.any ho t.nC (by simp)
  exact ⟨u.keep _ _ t.ob t.nH t.nf (by simp), u.free _ _ t.ob t.nH (by simp), hn, ⟨v, r, _, q, hd⟩, u.free _ _ ho t.nC (by simp), hc⟩
abbrev Jd.env (J : Jd) (L : Addr) : Env := PySem.W.envX J.q J.scope L J.f (.ref J.c') J.cl
/-- the context of its body -/
def lamC (J : Jd) (P : Program) (w : World) (K : PySem.W.Frag) (mg : Str → Option Value) (base : Heap) (A : Around) (outer : List Env) (s : Shared) (H : Hp) : Cx where
  prog := P
  w := w
  K := K
  mg := mg
  base := base
  A := A.deeper (J.env s.heap.objs.size)
  N := [J.x, J.z]
  s_0 := s
  H_0 := H
  env := J.env s.heap.objs.size
  outer := outer
  stack := J.env s.heap.objs.size :: outer
  ex := []
  fn := fun _ => false
  calm := true
  pn := []
  xe := fun e s' => wpAny (model P w) (A.deeper (J.env s.heap.objs.size)) (leaving (J.env s.heap.objs.size) e) (fun _ _ => False) (fun _ _ => False) s'
section
variable {P : Program} {w : World} {K : PySem.W.Frag} {mg : Str → Option Value} {base : Heap}
theorem lam_inv {J : Jd} (ok : J.Ok) {A : Around} {outer : List Env} {s : Shared} {H : Hp} {h₁ : Heap} {tk : Nat} {v : V} {u : Value} (th : There J s H (frs outer)) (e0 : Env0 P w K mg base A outer s H) (hd : A.handled = none) (rv : RelV v u)
    (hns : h₁.Ns s.heap.objs.size fun y => ([(J.x, u)] : List (Str × Value)).reverse.lookup y) (kp : ∀ b o, s.heap.get? b = some o → h₁.get? b = some o) :
    Inv (lamC J P w K mg base A outer s H) [] [some v, some J.pv] H { s with heap := h₁, toks := tk } := by
  have noA : ∀ b : Addr, b ∉ (lamC J P w K mg base A outer s H).ex := fun b z => absurd (show b ∈ ([] : List Addr) from z) (by simp)
  obtain ⟨uz, rz, oz, hoz, hdz⟩ := th.cell
  refine ⟨⟨e0.mod, ok.kind, rfl, rfl, Nat.le_refl _, fun y z c e1 e2 => ?_, fun y hy => ?_, fun y c z _ => ?_, fun _ => hd, Around.frames_deeper e0.frames, .inr ⟨rfl, rfl⟩, fun b z => absurd z (noA b), e0.bs, e0.bsz, fun b _ _ => noA b,
      fun b z => absurd z (noA b), e0.funs, e0.frf⟩,
    rfl, e0.bare, Un.kept kp, ⟨_, hns, fun i y v' e1 e2 e3 => ?_⟩, fun y c e => ?_, e0.hok.fresh (Nat.le_refl _), fun y c e => ?_, fun q hq => absurd (show q ∈ ([] : List (Addr × Obj)) ++ [] from hq) (by simp), e0.hok.kept kp, rfl⟩
  · have h1 : J.cl.lookup y = some c := e1
    have h2 : J.cl.lookup z = some c := e2
    rw [(ok.cl1 _ _ h1).1, (ok.cl1 _ _ h2).1]
  · have hy : J.scope.names.lookup y = some .cell ∨ J.scope.names.lookup y = some .free := hy
    rcases hy with hy | hy
    · exact absurd rfl (ok.nocell _ (PySem.mem_of_lookup hy))
    · rw [ok.free y hy]
      exact ⟨J.cz, ok.cl2⟩
  · have z : false = true := z
    cases z
  · have e1 : ([J.x, J.z] : List Str)[i]? = some y := e1
    have e3 : Vis J.scope y := e3
    rcases e3 with k | k | k
    · have hy := ok.own y k
      match i, e1 with
      | 0, e1 =>
        cases e2
        refine ⟨u, rv, .inl ⟨k, ?_⟩⟩
        show ([(J.x, u)] : List (Str × Value)).reverse.lookup y = some u
        rw [hy]
        simp [List.lookup]
      | 1, e1 =>
        cases e1
        exact absurd hy ok.ne.symm
      | i + 2, e1 => simp at e1
    · exact absurd rfl (ok.nocell _ (PySem.mem_of_lookup k))
    · have hy := ok.free y k
      match i, e1 with
      | 0, e1 =>
        cases e1
        exact absurd hy ok.ne
      | 1, e1 =>
        cases e2
        rw [hy]
        rw [hy] at k
        exact ⟨uz, rz, .inr ⟨.inr k, J.cz, ok.cl2, _, kp _ _ hoz, hdz⟩⟩
      | i + 2, e1 => simp at e1
  · obtain ⟨_, rfl⟩ := ok.cl1 y c e
    exact ⟨some uz, _, kp _ _ hoz, hdz⟩
  · obtain ⟨_, rfl⟩ := ok.cl1 y c e
    exact th.nC
/-- the lambda called -/
theorem lam_run {J : Jd} (ok : J.Ok) {k : Nat} {tb : TE} {A : Around} {outer : List Env} {s : Shared} {H : Hp} {v : V} {u : Value} {Q : VK} {E : XK} (th : There J s H (frs outer)) (e0 : Env0 P w K mg base A outer s H) (hr : Room (k + 1) A) (rv : RelV v u)
    (hbody : ∀ (s : Shared) (H : Hp), Room k (A.deeper (J.env s.heap.objs.size)) → PE (lamC J P w K mg base A outer s H) J.body tb) (q : tb [some v, some J.pv] H Q) :
    codeAny (model P w) A (.call (.ref J.f) ⟨[u], []⟩) (CR C8.CX0 outer P w H s Q E) s := by
  have lim : s.heap.NoLimit := e0.mod.nolimit.keeps fun b o e => (e0.bs b o e).1
  obtain ⟨⟨oc, vs, t, hoc, hdc, hvc⟩, _, _⟩ := e0.hok J.c' _ th.code
  refine PySem.W.kla_callFunE hr.depth th.ob rfl ok.co ok.gen rfl ⟨J.c', oc, vs, t, rfl, hoc, hdc, hvc⟩ ?_
  rw [ok.bind]
  refine wpAny_pure (wpAny_newFunctionEnv ok.nocell (fun y hy => ?_) (fun h₁ hns hsb => ⟨lim.fresh _ hsb, ?_⟩) ok.kind)
  · rw [List.mem_singleton.mp hy]
    exact ok.hx
  show codeAny _ _ (.expr J.body (J.env s.heap.objs.size)) _ _
  have kp : ∀ b o, s.heap.get? b = some o → h₁.get? b = some o := fun b o e => hsb.extBut b o (Nat.ne_of_lt (Heap.lt_size e)) (Heap.get?_push_of_some _ e)
  have I := lam_inv (P := P) (w := w) (K := K) (mg := mg) (base := base) (tk := s.toks + ([(J.x, u)] : List (Str × Value)).length) ok th e0 hr.hd rv hns kp
  refine PySem.W.kla_codeExpr (wpAny_mono ((hbody s H (hr.deeper _)).run [] _ _ H Q I q) (fun v s' hq => ?_) fun e s' hq => hq)
  obtain ⟨w', H', J', rv', q'⟩ := hq
  exact ⟨w', H', J'.os, J'.bare, J'.base, J'.hok, rv', q'⟩
end

/-! ### defs that get such a lambda -/
structure FnJ (P : Program) (w : World) (K : PySem.W.Frag) (mg : Str → Option Value) (base : Heap) (J : Jd) (k : Nat) (f : Addr) (fd : FuncData) (ps : List Str) (sp : Sp) : Prop where
  len : ∀ vs H Q E, sp vs H Q E → vs.length = ps.length
  run : ∀ (A : Around) (outer : List Env) (s : Shared) (H : Hp) (args : Args) (us : List Value) (vs : List V) (Q : VK) (E : XK), Room k A → There J s H (frs outer) → Env0 P w K mg base A outer s H →
    BindsTo s fd args (ps.zip us) → Vals vs us → sp vs H Q E → codeAny (model P w) A (.call (.ref f) args) (CR C8.CX0 outer P w H s Q E) s
structure CalJ (P : Program) (w : World) (K : PySem.W.Frag) (mg : Str → Option Value) (base : Heap) (J : Jd) (k : Nat) (x : Str) (sp : Sp) : Prop where
  ex : ∃ (f : Addr) (fd : FuncData) (ps : List Str), FnJ P w K mg base J k f fd ps sp ∧ mg x = some (.ref f) ∧ PySem.W.keepIn K (.ref f) = true ∧ Binds K fd ps []
section
variable {P : Program} {w : World} {K : PySem.W.Frag} {mg : Str → Option Value} {base : Heap} {J : Jd} {k : Nat} {x : Str} {st : Stmt} {N ps : List Str} {sp : Sp}
theorem cal_ofJ (F : DefOk K mg x st) (S : FnScope N ps (defScope st)) (hb : ∀ f fd, FunD K x x (defArgs st) (defBody st) (defScope st) [] [] f fd → Binds K fd ps []) (len : ∀ vs H Q E, sp vs H Q E → vs.length = ps.length)
    (body : ∀ (f : Addr) (cdv : Value) (A : Around) (outer : List Env) (s : Shared) (H : Hp) (vs : List V) (Q : VK) (E : XK), Room k (A.deeper (envOfC x (defScope st) s.heap.objs.size f cdv)) → There J s H (frs outer) → sp vs H Q E →
      ∃ t, PSs (cxOf C8.CX0 P w K mg base N x (defScope st) f cdv A outer s H E).nox (defBody st) t ∧ t { nx := fun _ H' => Q .non H', rt := Q } (start N vs) H) : CalJ P w K mg base J (k + 1) x sp := by
  obtain ⟨f, fd, F, hm⟩ := F.ex
  refine ⟨f, fd, ps, ?_, hm, F.kp, hb f fd F⟩
  obtain ⟨oc, od, dV, kV, doc, pm, an, cdv, ct, osl, rfl, lk, hcd, _, _⟩ := F.ex
  constructor
  · exact len
  · intro A outer s H args us vs Q E room th env bd rel told
    have stays : ∀ (b : Addr) (o : Obj), base.get? b = some o → s.heap.get? b = some o := fun b o q => (env.bs b o q).1
    have count := len vs H Q E told
    have heap : K.In s.heap := env.mod.kin.keeps stays
    refine codeAny_call_function room.depth (heap _ _ lk) rfl S.co S.gen rfl (PySem.W.codeRec_of heap hcd) ?_
    refine bd _ _ _ _ (wpAny_newFunctionEnv_cells S.kind ?kinds fun e he s1 made => ?_)
    case kinds =>
      intro y hy
      cases S.par y.1 (List.of_mem_zip (a := y.1) (b := y.2) hy).1 with
      | inl q => exact Or.inl q
      | inr q => exact Or.inr (And.intro q (PySem.W.cellsFrom_some _ _ _ (Or.inl q)))
    subst he
    have nolim : s.heap.NoLimit := env.mod.nolimit.keeps stays
    refine And.intro (nolim.keeps made.toInCall.keep) (codeAny_func ?_)
    obtain ⟨t, d, rd⟩ := body f cdv A outer s H vs Q E (room.deeper _) th told
    have inv := inv_start (CX := C8.CX0) (E := E) S room.hd env count rel made
    have ran := (PSs.nox d).run [] s1 (start N vs) H _ inv rd
    refine wpAny_mono ran (fun fl s' out => ?_) (fun e s' out => out)
    match fl, out with
    | .ret u, ⟨v, _, H', J', r, z⟩ => exact ⟨v, H', J'.os, J'.bare, J'.base, J'.hok, r, z⟩
    | .next, ⟨_, H', J', z⟩ => exact ⟨.non, H', J'.os, J'.bare, J'.base, J'.hok, rfl, z⟩
    | .brk, ⟨_, _, _, z⟩ => exact z.elim
    | .cont, ⟨_, _, _, z⟩ => exact z.elim
theorem cal_neverJ (F : DefOk K mg x st) (hb : ∀ f fd, FunD K x x (defArgs st) (defBody st) (defScope st) [] [] f fd → Binds K fd ps []) (no : ∀ vs H Q E, ¬ sp vs H Q E) : CalJ P w K mg base J k x sp := by
  obtain ⟨f, fd, F, hm⟩ := F.ex
  exact ⟨f, fd, ps, ⟨fun vs H Q E h => absurd h (no vs H Q E), fun A outer s H args us vs Q E _ _ _ _ _ h => absurd h (no vs H Q E)⟩, hm, F.kp, hb f fd F⟩
/-- the lambda, where it was got -/
abbrev Zc (P : Program) (w : World) (K : PySem.W.Frag) (mg : Str → Option Value) (base : Heap) (N : List Str) (qual : Str) (scope : Scope) (f : Addr) (cdv : Value) (A : Around) (outer : List Env) (s : Shared) (H : Hp) (E : XK) : Cx := (cxOf C8.CX0 P w K mg base N qual scope f cdv A outer s H E).nox
def HasC (J : Jd) (H : Hp) : Prop := H J.c' = some (CodeO J.c' J.q)
def tJudge (J : Jd) (i : Nat) (tb : TE) (ta : TA) : TE := fun σ H Q => σ[i]? = some (some (.ref J.f)) ∧ ta σ H fun vs H1 => ∃ v, vs = [v] ∧ HasC J H1 ∧ tb [some v, some J.pv] H1 Q
def tCallJ (J : Jd) (sp : Sp) (ta : TA) : TE := fun σ H Q => ta σ H fun vs H1 => HasC J H1 ∧ sp vs H1 Q C8.E0
variable {qual : Str} {scope : Scope} {f : Addr} {cdv : Value} {A : Around} {outer : List Env} {s : Shared} {H : Hp} {E : XK}
theorem there_at (th : There J s H (frs outer)) {pins : List (Addr × Obj)} {σ : L2.St} {H1 : Hp} {s1 : Shared} (I : Inv (Zc P w K mg base N qual scope f cdv A outer s H E) pins σ H1 s1) (hc : HasC J H1) : There J s1 H1 (frs (Zc P w K mg base N qual scope f cdv A outer s H E).stack) := by
  refine th.step I.base hc fun hm => ?_
  have hm : J.f ∈ s.heap.objs.size :: frs outer := hm
  rcases List.mem_cons.mp hm with e | hm
  · have := Heap.lt_size th.ob
    rw [e] at this
    exact absurd this (Nat.lt_irrefl _)
  · exact th.nf hm
theorem pe_judge {y : Str} {i j : Nat} {p pos : Pos} {e : Expr} {tb : TE} {ta : TA} (th : There J s H (frs outer)) (ok : J.Ok) (hr : Room j (Zc P w K mg base N qual scope f cdv A outer s H E).A) (hk : k + 1 ≤ j)
    (hbody : ∀ (A : Around) (outer : List Env) (s : Shared) (H : Hp), Room k (A.deeper (J.env s.heap.objs.size)) → PE (lamC J P w K mg base A outer s H) J.body tb) (hN : N[i]? = some y) (hv : Vis scope y) (ha : PA (Zc P w K mg base N qual scope f cdv A outer s H E) [e] ta)
    (hdb : (y == ("__debug__" : Str)) = false := by decide) (hcd : (y == ("__classdict__" : Str)) = false := by decide)
    (hst : starEach [e] (Zc P w K mg base N qual scope f cdv A outer s H E).env = (false, eval e (Zc P w K mg base N qual scope f cdv A outer s H E).env) :: starEach [] (Zc P w K mg base N qual scope f cdv A outer s H E).env := by rfl) (hpl : (backTo pos (starEach [] (Zc P w K mg base N qual scope f cdv A outer s H E).env)).any (·.1) = false := by rfl) :
    PE (Zc P w K mg base N qual scope f cdv A outer s H E) (.Call (.Name y p) [e] [] pos) (tJudge J i tb ta) := by
  refine ⟨fun pins sZ σ HZ Q I h => ?_⟩
  obtain ⟨hs, ht⟩ := h
  refine wpAny_Call_Name_kw (thn ((pe_var (pos := p) hN hv hdb hcd).run pins sZ σ HZ (fun v H1 => v = .ref J.f ∧ H1 = HZ) I ⟨.ref J.f, hs, rfl, rfl⟩) fun u s1 ⟨v, H1, I1, r1, q1⟩ => ?_)
  obtain ⟨rfl, rfl⟩ := q1
  cases r1
  have keepF : ∀ {pins : List (Addr × Obj)} {σ : L2.St} {H1 : Hp} {s1 : Shared}, Inv (Zc P w K mg base N qual scope f cdv A outer s H E) pins σ H1 s1 → s1.heap.get? J.f = some J.ob := fun I => I.base.keep _ _ th.ob th.nH th.nf (fun z => nomatch (show J.f ∈ ([] : List Addr) from z))
  refine PySem.W.callWith_F ⟨_, _, _, _, keepF I1⟩ (thn (ha.run pos pins s1 σ _ _ I1 ht) fun us s2 ⟨vs, H2, I2, r, q⟩ => ⟨⟨_, _, _, _, keepF I2⟩, ?_⟩) hst hpl
  obtain ⟨v, rfl, hc, q⟩ := q
  obtain ⟨u, eu, rx⟩ := vals1 r
  subst eu
  · refine wpAny_call (codeAny_mono (lam_run (k := k) (E := C8.E0) ok (there_at th I2 hc) I2.env0 (hr.mono hk) rx (fun s H => hbody _ _ s H) q) fun res s' out => ?_)
    match res, out with
    | .error _, z => exact z.elim
    | .ok (.ret _), z => exact I2.after z
    | .ok .next, z => exact z.elim
    | .ok .brk, z => exact z.elim
    | .ok .cont, z => exact z.elim
theorem pe_cJ {y : Str} {p pos : Pos} {e : Expr} {es : List Expr} {ta : TA} {j : Nat} (c : CalJ P w K mg base J k y sp) (th : There J s H (frs outer)) (hr : Room j (Zc P w K mg base N qual scope f cdv A outer s H E).A) (hk : k ≤ j) (hg : Gl (Zc P w K mg base N qual scope f cdv A outer s H E) y)
    (ha : PA (Zc P w K mg base N qual scope f cdv A outer s H E) (e :: es) ta) (hdb : (y == ("__debug__" : Str)) = false := by decide)
    (he : starEach (e :: es) (Zc P w K mg base N qual scope f cdv A outer s H E).env = (false, eval e (Zc P w K mg base N qual scope f cdv A outer s H E).env) :: starEach es (Zc P w K mg base N qual scope f cdv A outer s H E).env := by rfl) (hpl : (backTo pos (starEach es (Zc P w K mg base N qual scope f cdv A outer s H E).env)).any (·.1) = false := by rfl) :
    PE (Zc P w K mg base N qual scope f cdv A outer s H E) (.Call (.Name y p) (e :: es) [] pos) (tCallJ J sp ta) := by
  obtain ⟨g, fd, ps, F, hm, kp, b⟩ := c.ex
  constructor
  intro pins sZ σ HZ Q I h
  refine wpAny_Call_Name_kw (ld_glob I hg hm ?_ hdb)
  refine PySem.W.callWith_K (h₀ := base) I.ok.mod.kin kp ?_ he hpl
  refine thn (ha.run pos pins sZ σ HZ _ I h) fun us s1 ⟨vs, H1, I1, r, hc, q⟩ => And.intro I1.kIn ?_
  have fits : us.length = ps.length := r.length.symm.trans (F.len vs H1 Q C8.E0 q)
  have bt := b s1 us I1.kIn (by rw [List.append_nil]; exact fits)
  rw [List.append_nil] at bt
  refine wpAny_call (codeAny_mono (F.run _ _ s1 H1 ⟨us, []⟩ us vs Q C8.E0 (hr.mono hk) (there_at th I1 hc) I1.env0 bt r q) ?_)
  intro res s' out
  match res, out with
  | .error _, z => exact z.elim
  | .ok (.ret _), z => exact I1.after z
  | .ok .next, z => exact z.elim
  | .ok .brk, z => exact z.elim
  | .ok .cont, z => exact z.elim
end

/-! ### where it is made and handed on -/
def lamB (sc scope : Scope) (x z : Str) : Bool :=
  decide (scope.kind = .function) && !scope.isCoroutine && !scope.isGenerator && decide (x ≠ z) && decide (scope.names.lookup x = some .local) && decide (scope.names.lookup z = some .free) && decide (sc.names.lookup z = some .cell) &&
    scope.names.all fun y => !decide (y.2 = .cell) && (!decide (y.2 = .local) || decide (y.1 = x)) && (!decide (y.2 = .free) || decide (y.1 = z))
structure Stat (J : Jd) (q : Str) (params : Arguments) (body : Expr) (scope : Scope) (x z : Str) (pv : V) : Prop where
  q : J.q = q
  params : J.params = params
  body : J.body = body
  scope : J.scope = scope
  x : J.x = x
  z : J.z = z
  pv : J.pv = pv
def tMkJ (T : List (Addr × Str)) (q : Str) (params : Arguments) (body : Expr) (scope : Scope) (x z : Str) (iz : Nat) (spJ : Jd → Sp) (te : TE) : TE := fun σ H Q => te σ H fun v H1 => Tabs T H1 ∧ ∃ pv, σ[iz]? = some (some pv) ∧
  ∀ (J : Jd) H2, ExtN H1 H2 → Tabs T H2 → J.Ok → HasC J H2 → Stat J q params body scope x z pv → spJ J [v, .ref J.f] H2 Q C8.E0
theorem pe_mkJ {X : Cx} {T : List (Addr × Str)} {spJ : Jd → Sp} {y x z : Str} {c P : Addr} {k j iz : Nat} {params : Arguments} {body : Expr} {scope : Scope} {e1 : Expr} {te : TE} {p lpos pos : Pos} {st : Stmt} (F : DefOk X.K X.mg y st)
    (cj : ∀ J : Jd, J.Ok → (∃ pv, Stat J (X.env.qual ++ "<lambda>") params body scope x z pv) → CalJ X.prog X.w X.K X.mg X.base J k y (spJ J)) (hr : Room j X.A) (hk : k ≤ j) (hg : Gl X y) (he : PE X e1 te) (TB : TabB X.base X.mg c P) (hcode : X.env.code = .ref c)
    (hmT : (P, X.env.qual ++ "<lambda>") ∈ T) (hu : ∀ p ∈ T, p.1 = P → p.2 = X.env.qual ++ "<lambda>") (hdef : defaultsOf params X.env = ([], [])) (L : lamB X.env.scope scope x z = true) (hN : X.N[iz]? = some z)
    (hbind : ∀ (q : Str) (cl : List (Str × Addr)) (pm cv ctv u : Value), bindArgs (PySem.W.kla_fn "<lambda>" q params body scope cl pm cv ctv) ⟨[u], []⟩ = pure [(x, u)])
    (hdb : (y == ("__debug__" : Str)) = false := by decide) (hst : starEach [e1, .Lambda params body scope lpos] X.env = (false, eval e1 X.env) :: starEach [.Lambda params body scope lpos] X.env := by rfl) :
    PE X (.Call (.Name y p) [e1, .Lambda params body scope lpos] [] pos) (tMkJ T (X.env.qual ++ "<lambda>") params body scope x z iz spJ te) := by
  refine ⟨fun pins s σ H Q I h => ?_⟩
  unfold lamB at L
  simp only [Bool.and_eq_true, Bool.or_eq_true, Bool.not_eq_true', decide_eq_true_eq, decide_eq_false_iff_not, List.all_eq_true] at L
  obtain ⟨⟨⟨⟨⟨⟨⟨l1, l2⟩, l3⟩, l4⟩, l5⟩, l6⟩, l7⟩, l8⟩ := L
  obtain ⟨g, gd, FD, hm⟩ := F.ex
  refine wpAny_Call_Name_kw (ld_glob I hg hm ?_ hdb)
  refine PySem.W.callWith_K (h₀ := X.base) I.ok.mod.kin FD.kp ?_ hst (by rfl)
  rw [hst]
  show wpAny _ _ (spliced ((false, eval e1 X.env) :: (false, eval (.Lambda params body scope lpos) X.env) :: [])) _ _ s
  refine Calls.spliced_cons (thn (he.run pins s σ H _ I h) fun u s1 ⟨v, H1, I1, r1, hT, pv, hpv, q⟩ => ?_)
  have hfree : ∀ y ∈ scope.names, y.2 = .free → ∃ c, X.env.cells.lookup y.1 = some c := fun y hy hf => by
    rw [(l8 y hy).2.resolve_left (fun h => h hf)]
    exact I1.ok.has z (.inl l7)
  refine Calls.spliced_cons (lam_make2 I1 TB hcode hmT hu hT hdef hfree fun f c' pm ctv H2 s' I2 eN T2 hf hfn hfr hco => ?_)
  refine Calls.spliced_nil ⟨I2.kIn, ?_⟩
  obtain ⟨cz, hcz⟩ := I1.ok.has z (.inl l7)
  let J : Jd := ⟨f, c', X.env.qual ++ "<lambda>", params, body, scope, cloFrom X.env.cells scope.names [], pm, ctv, x, z, cz, pv⟩
  have st : Stat J (X.env.qual ++ "<lambda>") params body scope x z pv := ⟨rfl, rfl, rfl, rfl, rfl, rfl, rfl⟩
  have zmem : (z, NameKind.free) ∈ scope.names := PySem.mem_of_lookup l6
  have cl1 : ∀ y c, (cloFrom X.env.cells scope.names []).lookup y = some c → y = z ∧ c = cz := fun y c e => by
    rcases cloFrom_mem (PySem.mem_of_lookup e) with hm | ⟨h1, h2⟩
    · cases hm
    · have hy : y = z := (l8 _ h1).2.resolve_left (fun h => h rfl)
      subst hy
      rw [hcz] at h2
      exact ⟨rfl, h2⟩
  have cl2 : (cloFrom X.env.cells scope.names []).lookup z = some cz := by
    obtain ⟨c2, h2⟩ := mem_lookup (cloFrom_has (cells := X.env.cells) (acc := []) zmem)
    rw [h2, (cl1 _ _ h2).2]
  have ok : J.Ok := ⟨l1, l2, l3, l4, l5, fun y hy => (l8 y hy).1.1, fun y hy => (l8 _ (PySem.mem_of_lookup hy)).1.2.resolve_left (fun h => h rfl), fun y hy => (l8 _ (PySem.mem_of_lookup hy)).2.resolve_left (fun h => h rfl), cl1, cl2, fun u => hbind _ _ _ _ _ u⟩
  have th : There J s' H2 (frs X.stack) := by
    refine ⟨hf, hfn, hfr, ?_, I2.freeC z cz hcz, hco⟩
    obtain ⟨m, hn, hl⟩ := I2.loc
    obtain ⟨u', r, q'⟩ := hl iz z pv hN hpv (.inr (.inl l7))
    refine ⟨u', r, ?_⟩
    rcases q' with ⟨k', _⟩ | ⟨_, c3, e', w'⟩
    · have k' : X.env.scope.names.lookup z = some .local := k'
      rw [l7] at k'
      cases k'
    · rw [hcz] at e'
      cases e'
      exact w'
  obtain ⟨g', fd, ps, FJ, hm', kp', b⟩ := (cj J ok ⟨pv, st⟩).ex
  obtain rfl : g = g' := by
    rw [hm] at hm'
    cases hm'
    rfl
  have q := q J H2 eN T2 ok hco st
  have fits : ([u, .ref f] : List Value).length = ps.length := (FJ.len _ H2 Q C8.E0 q)
  have bt := b s' [u, .ref f] I2.kIn (by rw [List.append_nil]; exact fits)
  rw [List.append_nil] at bt
  refine wpAny_call (codeAny_mono (FJ.run X.A X.stack s' H2 ⟨[u, .ref f], []⟩ [u, .ref f] [v, .ref f] Q C8.E0 (hr.mono hk) th I2.env0 bt (.cons r1 (.cons rfl .nil)) q) ?_)
  intro res s2 out
  match res, out with
  | .error _, z => exact z.elim
  | .ok (.ret _), z => exact I2.after z
  | .ok .next, z => exact z.elim
  | .ok .brk, z => exact z.elim
  | .ok .cont, z => exact z.elim

/-! ### a def that makes one: its code object is told -/
theorem cal_ofL {P : Program} {w : World} {K : PySem.W.Frag} {mg : Str → Option Value} {base : Heap} {x : Str} {st : Stmt} {N ps : List Str} {k : Nat} {sp : Sp} (F : DefOk K mg x st) (hw : mg x = some (.ref (He.fAd K (x, none)))) (S : FnScope N ps (defScope st))
    (hb : ∀ f fd, FunD K x x (defArgs st) (defBody st) (defScope st) [] [] f fd → Binds K fd ps []) (len : ∀ vs H Q E, sp vs H Q E → vs.length = ps.length)
    (body : ∀ (f : Addr) (cdv : Value) (A : Around) (outer : List Env) (s : Shared) (H : Hp) (vs : List V) (Q : VK) (E : XK), cdv = .ref (He.cT K (x, none)).1 → Room k (A.deeper (envOfC x (defScope st) s.heap.objs.size f cdv)) → sp vs H Q E →
      ∃ t, PSs (cxOf C8.CX0 P w K mg base N x (defScope st) f cdv A outer s H E).nox (defBody st) t ∧ t { nx := fun _ H' => Q .non H', rt := Q } (start N vs) H) : C8.Cal P w K mg base (k + 1) x sp [] := by
  obtain ⟨f, fd, F, hm⟩ := F.ex
  have ef : f = He.fAd K (x, none) := by
    rw [hm] at hw
    cases hw
    rfl
  refine ⟨f, fd, ps, [], ?_, hm, F.kp, hb f fd F, .nil⟩
  obtain ⟨oc, od, dV, kV, doc, pm, an, cdv, ct, osl, rfl, lk, hcd, _, _⟩ := F.ex
  obtain ⟨c, rfl⟩ := He.codeIn_ref hcd
  have ec : (He.cT K (x, none)).1 = c := He.codeOf_eq (p := (x, none)) (ef ▸ lk) rfl
  refine fn_of lk hcd S len fun A outer s H vs Q E hr h => ?_
  obtain ⟨t, h1, h2⟩ := body f (.ref c) A outer s H vs Q E (by rw [ec]) hr h
  exact ⟨t, PSs.nox h1, h2⟩
theorem ExtN.tk {H H' : Hp} (e : ExtN H H') : TK H H' := fun a xs h => e a _ h (by intro ps z; cases z)
theorem extN_of {H H' : Hp} (s : Same H H') : ExtN H H' := fun b o e _ => s b o e
section
variable {σ : L2.St} {H : Hp} {Q : VK} {J : Jd} {spJ : Jd → Sp} {sp : Sp} {ta : TA} {te tb : TE} {T : List (Addr × Str)} {q : Str} {params : Arguments} {body : Expr} {scope : Scope} {x z : Str} {iz i : Nat}
theorem e_cJ (h : ta σ H fun vs H1 => HasC J H1 ∧ sp vs H1 Q C8.E0) : tCallJ J sp ta σ H Q := h
theorem e_judge (e : σ[i]? = some (some (.ref J.f))) (h : ta σ H fun vs H1 => ∃ v, vs = [v] ∧ HasC J H1 ∧ tb [some v, some J.pv] H1 Q) : tJudge J i tb ta σ H Q := ⟨e, h⟩
theorem e_mkJ (h : te σ H fun v H1 => Tabs T H1 ∧ ∃ pv, σ[iz]? = some (some pv) ∧ ∀ (J : Jd) H2, ExtN H1 H2 → Tabs T H2 → J.Ok → HasC J H2 → Stat J q params body scope x z pv → spJ J [v, .ref J.f] H2 Q C8.E0) : tMkJ T q params body scope x z iz spJ te σ H Q := h
end
end WL
/-! WH: a head with defs that stand at any place: a property's getter, a def with defaults by name; a table of defs. -/
namespace WH
open PySem PySem.Spec PyProof.Rows L2 He
/-- what a def at a place is -/
def fnA (K : PySem.W.Frag) (a : Addr) : FnW := match K.lookup a with
  | some ⟨_, _, .func d, _⟩ => some (d.name, d.qualname, d.params, d.body, d.scope, d.globals, d.closure, d.builtins)
  | _ => none
/-- a def that stands where at_ says, with its defaults by name -/
structure SpD where
  at_ : PySem.W.Frag → Addr
  name : Str
  qual : Str
  params : Arguments
  body : List Stmt
  scope : Scope
  kws : PySem.W.Frag → List (Str × V) := fun _ => []
def SpD.val (d : SpD) : FnW := some (d.name, d.qual, d.params, .stmts d.body, d.scope, mainGlobals, [], builtinsNs)
def SpD.ok (K : PySem.W.Frag) (d : SpD) : Bool := (match K.lookup (d.at_ K) with
  | some ⟨_, _, .func e, _⟩ => PySem.W.codeIn K e.code d.qual && (dflB K e.defaults [] && kwdB K e.kwdefaults (d.kws K))
  | _ => false) && PySem.W.keepIn K (.ref (d.at_ K))
theorem SpD.funD {K : PySem.W.Frag} {d : SpD} (e : fnA K (d.at_ K) = d.val) (c : d.ok K = true) : ∃ fd, FunD K d.name d.qual d.params d.body d.scope [] (d.kws K) (d.at_ K) fd := by
  obtain ⟨c1, kp⟩ := ba c
  unfold fnA at e
  cases q : K.lookup (d.at_ K) with
  | none =>
    rw [q] at c1
    cases c1
  | some ob =>
    obtain ⟨o1, o2, o3, o4⟩ := ob
    rw [q] at c1 e
    cases o3 with
    | func g =>
      obtain ⟨g1, g2, g3, g4, g5, g6, g7, g8, g9, g10, g11, g12, g13, g14, g15⟩ := g
      have e : (some (g1, g2, g3, g4, g5, g6, g7, g15) : FnW) = some (d.name, d.qual, d.params, .stmts d.body, d.scope, mainGlobals, [], builtinsNs) := e
      simp only [Option.some.injEq, Prod.mk.injEq] at e
      obtain ⟨i1, i2, i3, i4, i5, i6, i7, i8⟩ := e
      subst i1 i2 i3 i4 i5 i6 i7 i8
      obtain ⟨u1, u2⟩ := ba (show (PySem.W.codeIn K g13 d.qual && (dflB K g8 [] && kwdB K g9 (d.kws K))) = true from c1)
      obtain ⟨u3, u4⟩ := ba u2
      exact ⟨_, ⟨o1, o2, g8, g9, g10, g11, g12, g13, g14, o4, rfl, q, u1, dflB_ok u3, kwdB_ok u4⟩, kp⟩
    | _ => cases c1
/-- the object of a property, its getter -/
def prA (K : PySem.W.Frag) (C f : Str) : Addr := ma K (ga K C) f
def geA (K : PySem.W.Frag) (C f : Str) : Addr := match PySem.W.recIn K (prA K C f) "property" with
  | some (.ref g :: _) => g
  | _ => 0
def propB (K : PySem.W.Frag) (C f : Str) : Bool := eqO (PySem.W.findIn K (.ref (ga K C)) f) (some (some (.ref (prA K C f)))) && (eqO (PySem.W.specialIn K (.ref (prA K C f)) "__get__") (some (some (.builtin "property.__get__"))) &&
  (decide (PySem.W.takesIn K (.ref (prA K C f)) = some true) && (match PySem.W.recIn K (prA K C f) "property" with
    | some (.ref _ :: _) => true
    | _ => false)))
theorem propB_ok {K : PySem.W.Frag} {C f : Str} (h : propB K C f = true) : PropOf K (ga K C) f (prA K C f) (geA K C f) := by
  obtain ⟨h1, h2⟩ := ba h
  obtain ⟨h3, h4⟩ := ba h2
  obtain ⟨h5, h6⟩ := ba h4
  refine ⟨eqO_ok h1, eqO_ok h3, of_decide_eq_true h5, ?_⟩
  unfold geA
  generalize PySem.W.recIn K (prA K C f) "property" = z at h6
  cases z with
  | none => cases h6
  | some l => cases l with
    | nil => cases h6
    | cons v r => cases v with
      | ref g => exact ⟨r, rfl⟩
      | _ => cases h6
/-- what a default by name is -/
def kwA (K : PySem.W.Frag) (x f : Str) : Addr := match K.lookup (ga K x) with
  | some ⟨_, _, .func e, _⟩ => (match e.kwdefaults with
    | .ref D => (match PySem.W.nsIn K D f with
      | some (some (.ref a)) => a
      | _ => 0)
    | _ => 0)
  | _ => 0
def emptyB (K : PySem.W.Frag) (a : Addr) : Bool := W6.tupAt K (K.lookup a) []
/-! ### the hook -/
abbrev AlP : Type := AlX × List FnW
def exP (ex : PySem.W.Frag → Bool) (ps : List SpD) (K : PySem.W.Frag) : Bool := ex K && ps.all fun d => d.ok K
def obsP (n : Nat) (fa : List Fa) (fn : List DefD) (ts : List Tab) (tf : List Defn) (ex : PySem.W.Frag → Bool) (ps : List SpD) (g : Addr → Option Obj) : AlP :=
  (obsX n fa fn ts tf (exP ex ps) g, ps.map fun d => fnA (frT g (asD g n)) (d.at_ (frT g (asD g n))))
def valP (fn : List DefD) (ts : List Tab) (ps : List SpD) (w : World) : AlP := (valX fn ts w, ps.map SpD.val)
structure SaysP (fa : List Fa) (fn : List DefD) (ts : List Tab) (tf : List Defn) (ex : PySem.W.Frag → Bool) (ps : List SpD) (w : World) (h : Heap) (K : PySem.W.Frag) : Prop where
  x : SaysX fa fn ts tf (exP ex ps) w h K
  p : ps.map (fun d => fnA K (d.at_ K)) = ps.map SpD.val
theorem SaysP.more {fa : List Fa} {fn : List DefD} {ts : List Tab} {tf : List Defn} {ex : PySem.W.Frag → Bool} {ps : List SpD} {w : World} {h : Heap} {K : PySem.W.Frag} (c : SaysP fa fn ts tf ex ps w h K) : ex K = true := (ba c.x.more).1
theorem SaysP.spec {fa : List Fa} {fn : List DefD} {ts : List Tab} {tf : List Defn} {ex : PySem.W.Frag → Bool} {ps : List SpD} {w : World} {h : Heap} {K : PySem.W.Frag} (c : SaysP fa fn ts tf ex ps w h K) (i : Nat) {d : SpD} (hd : ps[i]? = some d := by rfl) : ∃ fd, FunD K d.name d.qual d.params d.body d.scope [] (d.kws K) (d.at_ K) fd := by
  have c1 := List.all_eq_true.mp (ba c.x.more).2 d (List.mem_of_getElem? hd)
  have e : (ps.map fun d => fnA K (d.at_ K))[i]? = (ps.map SpD.val)[i]? := by rw [c.p]
  rw [List.getElem?_map, List.getElem?_map, hd] at e
  exact SpD.funD (Option.some.inj e) c1
def hookP (n : Nat) (fa : List Fa) (fn : List DefD) (ts : List Tab) (tf : List Defn) (ex : PySem.W.Frag → Bool) (ps : List SpD) : PySem.W.Hook where
  α := AlP
  obs := fun s => obsP n fa fn ts tf ex ps s.heap.get?
  val := valP fn ts ps
  says := fun w h => ∃ K : PySem.W.Frag, K.In h ∧ SaysP fa fn ts tf ex ps w h K
  of := fun w s e => by
    have e1 := congrArg (fun z : AlP => z.1) e
    have e2 := congrArg (fun z : AlP => z.2) e
    exact ⟨_, frT_in, saysX_of e1, e2⟩
  keeps := fun w h h2 ⟨K, hK, c⟩ k => ⟨K, PySem.W.Frag.In.keeps hK k, ⟨c.x.t, c.x.more, c.x.hd, c.x.out, fun p hp => k _ _ (c.x.empty p hp)⟩, c.p⟩
theorem obsP_eq {n : Nat} {fa : List Fa} {fn : List DefD} {ts : List Tab} {tf : List Defn} {ex : PySem.W.Frag → Bool} {ps : List SpD} {g : Addr → Option Obj} {s : Shared} (h : ∀ a, g a = s.heap.get? a) : obsP n fa fn ts tf ex ps g = (hookP n fa fn ts tf ex ps).obs s := by
  have e : g = s.heap.get? := funext h
  rw [e]
  rfl
end WH
namespace WX
/-! the paper of a shortest suite: nodes (chosen, barred), the stack's top first -/
abbrev Node := List Nat × List Nat
def holds (S : List (List Nat)) (e k : Nat) : Bool := (S.getD k []).contains e
def hol (S : List (List Nat)) (e : Nat) : List Nat := (List.range S.length).filter (holds S e)
def br : List Nat → List Nat → List Nat → List Node
  | [], _, _ => []
  | k :: ks, c, b => if k ∈ b then br ks c b else (c ++ [k], b) :: br ks c (b ++ [k])
def push (S : List (List Nat)) (m e : Nat) (c b : List Nat) (st : List Node) : List Node :=
  if c.length < m then br (hol S e) c b ++ st else st
def hit (S : List (List Nat)) (e : Nat) (c : List Nat) : Bool := c.any (holds S e)
def acc (S : List (List Nat)) (m : Nat) : List Nat → List Node → Bool
  | [], st => st.isEmpty
  | _ :: _, [] => false
  | e :: es, (c, b) :: st => if hol S e = [] then false else if hit S e c then false else acc S m es (push S m e c b st)
structure Ok (S : List (List Nat)) (m : Nat) (C : List Nat) : Prop where
  len : C.length ≤ m
  lt : ∀ k ∈ C, k < S.length
  all : ∀ e, hol S e ≠ [] → hit S e C = true
structure Comp (C : List Nat) (nd : Node) : Prop where
  un : nd.1.Nodup
  sub : ∀ k ∈ nd.1, k ∈ C
  out : ∀ k ∈ nd.2, k ∉ C
def Inv (S : List (List Nat)) (m : Nat) (st : List Node) : Prop := ∀ C, Ok S m C → ∃ nd ∈ st, Comp C nd
theorem nodup_len {l C : List Nat} (h : l.Nodup) (s : ∀ k ∈ l, k ∈ C) : l.length ≤ C.length := by
  induction l generalizing C with
  | nil => simp
  | cons a t ih =>
    have ha : a ∈ C := s a (by simp)
    have hn := List.nodup_cons.1 h
    have := ih (C := C.erase a) hn.2 (fun k hk => by
      have hk2 := s k (by simp [hk])
      have : k ≠ a := fun e => hn.1 (e ▸ hk)
      exact (List.mem_erase_of_ne this).2 hk2)
    have h2 := List.length_erase_of_mem ha
    have h3 : 0 < C.length := List.length_pos_of_mem ha
    simp only [List.length_cons]; omega
theorem hit_iff {S e c} : hit S e c = true ↔ ∃ k ∈ c, holds S e k = true := by simp [hit]
theorem mem_hol {S e k} : k ∈ hol S e ↔ k < S.length ∧ holds S e k = true := by simp [hol]
theorem br_comp {C ks c b} (hc : c.Nodup) (hs : ∀ k ∈ c, k ∈ C) (ho : ∀ k ∈ b, k ∉ C) (hn : ∀ k ∈ ks, k ∉ c) (hx : ∃ k ∈ ks, k ∈ C) : ∃ nd ∈ br ks c b, Comp C nd := by
  induction ks generalizing b with
  | nil => obtain ⟨k, hk, _⟩ := hx; exact absurd hk (by simp)
  | cons k ks ih =>
    unfold br
    by_cases hkb : k ∈ b
    · rw [if_pos hkb]
      refine ih ho (fun x hx => hn x (by simp [hx])) ?_
      obtain ⟨x, hx, hxC⟩ := hx
      rcases List.mem_cons.1 hx with rfl | hx
      · exact absurd hxC (ho _ hkb)
      · exact ⟨x, hx, hxC⟩
    · rw [if_neg hkb]
      by_cases hkC : k ∈ C
      · refine ⟨_, List.mem_cons_self .., ⟨?_, ?_, ho⟩⟩
        · refine List.nodup_append.2 ⟨hc, by simp, ?_⟩
          intro a ha x hx
          have : x = k := by simpa using hx
          subst this
          exact fun e => hn x (by simp) (e ▸ ha)
        · intro x hx
          rcases List.mem_append.1 hx with hx | hx
          · exact hs x hx
          · have : x = k := by simpa using hx
            exact this ▸ hkC
      · obtain ⟨x, hx, hxC⟩ := hx
        have hx : x ∈ ks := by
          rcases List.mem_cons.1 hx with rfl | hx
          · exact absurd hxC hkC
          · exact hx
        obtain ⟨nd, hnd, hcomp⟩ := ih (b := b ++ [k]) (by
          intro y hy
          rcases List.mem_append.1 hy with hy | hy
          · exact ho y hy
          · have : y = k := by simpa using hy
            exact this ▸ hkC) (fun x hx => hn x (by simp [hx])) ⟨x, hx, hxC⟩
        exact ⟨nd, List.mem_cons_of_mem _ hnd, hcomp⟩
theorem inv_step {S m e c b st} (I : Inv S m ((c, b) :: st)) (h1 : hol S e ≠ []) (h2 : hit S e c = false) : Inv S m (push S m e c b st) := by
  intro C O
  obtain ⟨nd, hnd, hc⟩ := I C O
  rcases List.mem_cons.1 hnd with rfl | hnd
  · have hh := hit_iff.1 (O.all e h1)
    obtain ⟨k, hk, hke⟩ := hh
    have hnc : ∀ k ∈ hol S e, k ∉ c := by
      intro x hx hxc
      have : hit S e c = true := hit_iff.2 ⟨x, hxc, (mem_hol.1 hx).2⟩
      rw [h2] at this; exact absurd this (by decide)
    have hkh : k ∈ hol S e := mem_hol.2 ⟨O.lt k hk, hke⟩
    have hlt : c.length < m := by
      have hkc := hnc k hkh
      have hnd2 : (k :: c).Nodup := List.nodup_cons.2 ⟨hkc, hc.un⟩
      have := nodup_len hnd2 (C := C) (fun x hx => by
        rcases List.mem_cons.1 hx with rfl | hx
        · exact hk
        · exact hc.sub x hx)
      have := O.len
      simp only [List.length_cons] at *; omega
    unfold push
    rw [if_pos hlt]
    obtain ⟨nd, h, hcm⟩ := br_comp hc.un hc.sub hc.out hnc ⟨k, hkh, hk⟩
    exact ⟨nd, List.mem_append_left _ h, hcm⟩
  · unfold push
    split
    · exact ⟨nd, List.mem_append_right _ hnd, hc⟩
    · exact ⟨nd, hnd, hc⟩
theorem inv_start {S m} : Inv S m [([], [])] := fun C _ => ⟨_, List.mem_cons_self .., ⟨by simp, by simp, by simp⟩⟩
theorem inv_end {S m} (I : Inv S m []) {C} (O : Ok S m C) : False := by
  obtain ⟨nd, h, _⟩ := I C O
  exact absurd h (by simp)
theorem acc_sound {S m es st} (I : Inv S m st) (h : acc S m es st = true) {C} (O : Ok S m C) : False := by
  induction es generalizing st with
  | nil =>
    cases st with
    | nil => exact inv_end I O
    | cons a t => simp [acc] at h
  | cons e es ih =>
    cases st with
    | nil => simp [acc] at h
    | cons a t =>
      obtain ⟨c, b⟩ := a
      simp only [acc] at h
      split at h
      · exact absurd h (by decide)
      · split at h
        · exact absurd h (by decide)
        · rename_i h1 h2
          exact ih (inv_step I h1 (by simpa using h2)) h
/-! nodes on the stack: their chosen numbers -/
structure Good (S : List (List Nat)) (m : Nat) (nd : Node) : Prop where
  un : nd.1.Nodup
  lt : ∀ k ∈ nd.1, k < S.length
  blt : ∀ k ∈ nd.2, k < S.length
  bun : nd.2.Nodup
  len : nd.1.length ≤ m
theorem br_good {S m ks c b} (hc : c.Nodup) (hl : c.length < m) (hs : ∀ k ∈ c, k < S.length) (hb : ∀ k ∈ b, k < S.length) (hbn : b.Nodup) (hk : ∀ k ∈ ks, k < S.length) (hn : ∀ k ∈ ks, k ∉ c) : ∀ nd ∈ br ks c b, Good S m nd := by
  induction ks generalizing b with
  | nil => intro nd h; exact absurd h (by simp [br])
  | cons k ks ih =>
    unfold br
    split
    · exact ih hb hbn (fun x hx => hk x (by simp [hx])) (fun x hx => hn x (by simp [hx]))
    · rename_i hkb
      intro nd h
      rcases List.mem_cons.1 h with rfl | h
      · refine ⟨?_, ?_, hb, hbn, by simp; omega⟩
        · refine List.nodup_append.2 ⟨hc, by simp, ?_⟩
          intro a ha x hx
          have : x = k := by simpa using hx
          subst this
          exact fun e => hn x (by simp) (e ▸ ha)
        · intro x hx
          rcases List.mem_append.1 hx with hx | hx
          · exact hs x hx
          · have : x = k := by simpa using hx
            exact this ▸ hk k (by simp)
      · refine ih (b := b ++ [k]) ?_ (List.nodup_append.2 ⟨hbn, by simp, fun a ha x hx => by
          have : x = k := by simpa using hx
          subst this
          exact fun e => hkb (e ▸ ha)⟩) (fun x hx => hk x (by simp [hx])) (fun x hx => hn x (by simp [hx])) nd h
        intro x hx
        rcases List.mem_append.1 hx with hx | hx
        · exact hb x hx
        · have : x = k := by simpa using hx
          exact this ▸ hk k (by simp)
theorem not_hit {S e c} (h2 : hit S e c = false) : ∀ k ∈ hol S e, k ∉ c := by
  intro x hx hxc
  have : hit S e c = true := hit_iff.2 ⟨x, hxc, (mem_hol.1 hx).2⟩
  rw [h2] at this; exact absurd this (by decide)
theorem push_good {S m e c b st} (G : ∀ nd ∈ (c, b) :: st, Good S m nd) (h2 : hit S e c = false) : ∀ nd ∈ push S m e c b st, Good S m nd := by
  intro nd h
  unfold push at h
  have g := G (c, b) (by simp)
  split at h
  · rename_i hl
    rcases List.mem_append.1 h with h | h
    · exact br_good g.un hl g.lt g.blt g.bun (fun k hk => (mem_hol.1 hk).1) (not_hit h2) nd h
    · exact G nd (by simp [h])
  · exact G nd (by simp [h])
theorem good_start {S m} : ∀ nd ∈ [(([], []) : Node)], Good S m nd := by
  intro nd h
  have : nd = ([], []) := by simpa using h
  subst this
  exact ⟨by simp, by simp, by simp, by simp, Nat.zero_le _⟩
theorem small_nodup {l : List Nat} {n : Nat} (h : l.Nodup) (hl : ∀ k ∈ l, k < n) : l.length ≤ n := by
  have := nodup_len h (C := List.range n) (fun k hk => List.mem_range.2 (hl k hk))
  rwa [List.length_range] at this
theorem br_len {c} : ∀ {ks b : List Nat}, (br ks c b).length ≤ ks.length
  | [], b => Nat.le_refl _
  | k :: ks, b => by
    unfold br
    split
    · exact Nat.le_succ_of_le br_len
    · exact Nat.succ_le_succ br_len
/-! how many steps -/
def free (n : Nat) (c b : List Nat) : Nat := ((List.range n).filter (fun k => decide (k ∉ c ∧ k ∉ b))).length
def wt (n : Nat) : List Node → Nat
  | [] => 0
  | nd :: st => 2 ^ free n nd.1 nd.2 + wt n st
theorem wt_app {n x y} : wt n (x ++ y) = wt n x + wt n y := by
  induction x with
  | nil => simp [wt]
  | cons a t ih => simp only [List.cons_append, wt, ih]; omega
theorem filt_lt {l : List Nat} {p q : Nat → Bool} (hi : ∀ k, q k = true → p k = true) {k} (hk : k ∈ l) (hp : p k = true) (hq : q k = false) : (l.filter q).length < (l.filter p).length := by
  have hle : ∀ l : List Nat, (l.filter q).length ≤ (l.filter p).length := by
    intro l
    induction l with
    | nil => simp
    | cons a t ih =>
      by_cases hqa : q a = true
      · rw [List.filter_cons_of_pos hqa, List.filter_cons_of_pos (hi a hqa)]; simp; exact ih
      · rw [List.filter_cons_of_neg hqa]
        by_cases hpa : p a = true
        · rw [List.filter_cons_of_pos hpa]; simp; omega
        · rw [List.filter_cons_of_neg hpa]; exact ih
  induction l with
  | nil => exact absurd hk (by simp)
  | cons a t ih =>
    rcases List.mem_cons.1 hk with rfl | hk
    · rw [List.filter_cons_of_neg (by simp [hq]), List.filter_cons_of_pos hp]
      have := hle t
      simp; omega
    · have := ih hk
      by_cases hqa : q a = true
      · rw [List.filter_cons_of_pos hqa, List.filter_cons_of_pos (hi a hqa)]; simp; exact this
      · rw [List.filter_cons_of_neg hqa]
        by_cases hpa : p a = true
        · rw [List.filter_cons_of_pos hpa]; simp; omega
        · rw [List.filter_cons_of_neg hpa]; exact this
theorem free_c {n c b k} (h : k < n) (hc : k ∉ c) (hb : k ∉ b) : free n (c ++ [k]) b + 1 ≤ free n c b :=
  filt_lt (p := fun k => decide (k ∉ c ∧ k ∉ b)) (q := fun x => decide (x ∉ c ++ [k] ∧ x ∉ b)) (fun x hx => by simp at *; exact ⟨hx.1.1, hx.2⟩) (List.mem_range.2 h) (by simp [hc, hb]) (by simp)
theorem free_b {n c b k} (h : k < n) (hc : k ∉ c) (hb : k ∉ b) : free n c (b ++ [k]) + 1 ≤ free n c b :=
  filt_lt (p := fun k => decide (k ∉ c ∧ k ∉ b)) (q := fun x => decide (x ∉ c ∧ x ∉ b ++ [k])) (fun x hx => by simp at *; exact ⟨hx.1, hx.2.1⟩) (List.mem_range.2 h) (by simp [hc, hb]) (by simp)
theorem wt_br {n ks c b} (hk : ∀ k ∈ ks, k < n) (hn : ∀ k ∈ ks, k ∉ c) : wt n (br ks c b) + 1 ≤ 2 ^ free n c b := by
  induction ks generalizing b with
  | nil => simp [br, wt]; exact Nat.one_le_two_pow
  | cons k ks ih =>
    unfold br
    split
    · exact ih (fun x hx => hk x (by simp [hx])) (fun x hx => hn x (by simp [hx]))
    · rename_i hb
      have h1 := ih (b := b ++ [k]) (fun x hx => hk x (by simp [hx])) (fun x hx => hn x (by simp [hx]))
      have h2 := free_c (hk k (by simp)) (hn k (by simp)) hb
      have h3 := free_b (hk k (by simp)) (hn k (by simp)) hb
      have h4 : 2 ^ free n (c ++ [k]) b ≤ 2 ^ (free n c b - 1) := Nat.pow_le_pow_right (by decide) (by omega)
      have h5 : 2 ^ free n c (b ++ [k]) ≤ 2 ^ (free n c b - 1) := Nat.pow_le_pow_right (by decide) (by omega)
      have h6 : 2 ^ free n c b = 2 ^ (free n c b - 1) * 2 := by rw [← Nat.pow_succ]; congr 1; omega
      simp only [wt]; omega
theorem wt_push {S m e c b st} (h2 : hit S e c = false) : wt S.length (push S m e c b st) + 1 ≤ wt S.length ((c, b) :: st) := by
  unfold push
  simp only [wt]
  split
  · rw [wt_app]
    have := wt_br (n := S.length) (ks := hol S e) (c := c) (b := b) (fun k hk => (mem_hol.1 hk).1) (not_hit h2)
    omega
  · have : 1 ≤ 2 ^ free S.length c b := Nat.one_le_two_pow
    omega
theorem wt_start {n} (h : n < 7) : wt n [([], [])] ≤ 64 := by
  simp only [wt]
  have : free n [] [] ≤ 6 := by
    have := List.length_filter_le (fun k => decide (k ∉ ([] : List Nat) ∧ k ∉ ([] : List Nat))) (List.range n)
    rw [List.length_range] at this
    unfold free; omega
  have := Nat.pow_le_pow_right (n := 2) (by decide) this
  omega
/-! the choices -/
def ch (m : Nat) : Nat → List (List Nat)
  | 0 => [[]]
  | k + 1 => ch m k ++ ((ch m k).filter (fun c => decide (c.length < m))).map (· ++ [k])
theorem ch_ok {m n c} (h : c ∈ ch m n) : c.length ≤ m ∧ ∀ k ∈ c, k < n := by
  induction n generalizing c with
  | zero => simp [ch] at h; subst h; simp
  | succ n ih =>
    rcases List.mem_append.1 h with h | h
    · exact ⟨(ih h).1, fun k hk => Nat.lt_succ_of_lt ((ih h).2 k hk)⟩
    · obtain ⟨d, hd, rfl⟩ := List.mem_map.1 h
      have hd := List.mem_filter.1 hd
      have i := ih hd.1
      have hl : d.length < m := by simpa using hd.2
      refine ⟨by simp; omega, fun k hk => ?_⟩
      rcases List.mem_append.1 hk with hk | hk
      · exact Nat.lt_succ_of_lt (i.2 k hk)
      · have : k = n := by simpa using hk
        omega
theorem ch_mem {m n} {p : Nat → Bool} (h : ((List.range n).filter p).length ≤ m) : (List.range n).filter p ∈ ch m n := by
  induction n with
  | zero => simp [ch]
  | succ n ih =>
    rw [List.range_succ, List.filter_append] at h ⊢
    by_cases hp : p n = true
    · rw [List.filter_cons_of_pos hp, List.filter_nil] at h ⊢
      simp at h
      refine List.mem_append_right _ (List.mem_map.2 ⟨_, List.mem_filter.2 ⟨ih (by omega), by simp; omega⟩, rfl⟩)
    · rw [List.filter_cons_of_neg hp, List.filter_nil, List.append_nil] at h ⊢
      exact List.mem_append_left _ (ih h)
def can (S : List (List Nat)) (m : Nat) : Prop := ∃ C, Ok S m C
theorem can_ch {S m} : can S m ↔ ∃ c ∈ ch m S.length, ∀ e, hol S e ≠ [] → hit S e c = true := by
  constructor
  · rintro ⟨C, O⟩
    have hn : ((List.range S.length).filter (fun k => decide (k ∈ C))).length ≤ C.length :=
      nodup_len (List.Nodup.sublist List.filter_sublist List.nodup_range) (fun k hk => by simpa using (List.mem_filter.1 hk).2)
    refine ⟨_, ch_mem (p := fun k => decide (k ∈ C)) (Nat.le_trans hn O.len), fun e he => ?_⟩
    obtain ⟨k, hk, hke⟩ := hit_iff.1 (O.all e he)
    exact hit_iff.2 ⟨k, List.mem_filter.2 ⟨List.mem_range.2 (O.lt k hk), by simpa using hk⟩, hke⟩
  · rintro ⟨c, hc, h⟩
    exact ⟨c, (ch_ok hc).1, (ch_ok hc).2, h⟩
theorem good_can {S m nd} (g : Good S m nd) (h : ∀ e, hol S e ≠ [] → hit S e nd.1 = true) : can S m := ⟨nd.1, g.len, g.lt, h⟩
theorem br_in {k ks c b} (h : k ∈ b) : br (k :: ks) c b = br ks c b := if_pos h
theorem br_out {k ks c b} (h : ¬ k ∈ b) : br (k :: ks) c b = (c ++ [k], b) :: br ks c (b ++ [k]) := if_neg h
/-! holders with doubles -/
theorem br_dbl {k ks c b} : br (k :: k :: ks) c b = br (k :: ks) c b := by
  by_cases h : k ∈ b
  · simp [br, h]
  · simp [br, h]
/-! ### holders as the program lays them -/
def addE (k : Nat) (g : Nat → List Nat) (e : Nat) : Nat → List Nat := fun x => if x = e then g x ++ [k] else g x
def evFold (g : Nat → List Nat) (k : Nat) (s : List Nat) : Nat → List Nat := s.foldl (addE k) g
def fillS : (Nat → List Nat) → Nat → List (List Nat) → Nat → List Nat
  | g, _, [] => g
  | g, k, s :: S => fillS (evFold g k s) (k + 1) S
def holR : Nat → List (List Nat) → Nat → List Nat
  | _, [], _ => []
  | k, s :: S, x => List.replicate (s.count x) k ++ holR (k + 1) S x
def holF : Nat → List (List Nat) → Nat → List Nat
  | _, [], _ => []
  | k, s :: S, x => (if s.contains x then [k] else []) ++ holF (k + 1) S x
theorem evFold_eq {k x : Nat} : ∀ {s : List Nat} {g : Nat → List Nat}, evFold g k s x = g x ++ List.replicate (s.count x) k
  | [], g => by simp [evFold]
  | e :: s, g => by
    have h := evFold_eq (k := k) (x := x) (s := s) (g := addE k g e)
    show evFold (addE k g e) k s x = _
    rw [h]
    unfold addE
    by_cases q : x = e
    · subst q
      rw [if_pos rfl, List.count_cons_self, List.append_assoc, List.replicate_succ]
      rfl
    · rw [if_neg q, List.count_cons_of_ne (Ne.symm q)]
theorem fillS_eq {x : Nat} : ∀ {S : List (List Nat)} {k : Nat} {g : Nat → List Nat}, fillS g k S x = g x ++ holR k S x
  | [], k, g => by simp [fillS, holR]
  | s :: S, k, g => by
    show fillS (evFold g k s) (k + 1) S x = _
    rw [fillS_eq, evFold_eq]
    simp [holR]
theorem fill0 {S : List (List Nat)} {x : Nat} : fillS (fun _ => []) 0 S x = holR 0 S x := by
  rw [fillS_eq]
  rfl
theorem br_congr {k : Nat} {L L' : List Nat} (h : ∀ c b, br L c b = br L' c b) (c b : List Nat) : br (k :: L) c b = br (k :: L') c b := by
  by_cases q : k ∈ b
  · rw [br_in q, br_in q, h]
  · rw [br_out q, br_out q, h]
theorem br_rep {k : Nat} {L L' : List Nat} (h : ∀ c b, br L c b = br L' c b) : ∀ (m : Nat) (c b : List Nat), br (List.replicate (m + 1) k ++ L) c b = br (k :: L') c b
  | 0, c, b => br_congr h c b
  | m + 1, c, b => by
    have ih := br_rep (k := k) h m c b
    rw [List.replicate_succ, List.replicate_succ]
    show br (k :: k :: (List.replicate m k ++ L)) c b = _
    rw [br_dbl]
    exact ih
theorem br_hol {x : Nat} : ∀ {S : List (List Nat)} {k : Nat} (c b : List Nat), br (holR k S x) c b = br (holF k S x) c b
  | [], k, c, b => rfl
  | s :: S, k, c, b => by
    unfold holR holF
    by_cases q : x ∈ s
    · have h1 : s.contains x = true := by simpa using q
      obtain ⟨m, hm⟩ : ∃ m, s.count x = m + 1 := ⟨s.count x - 1, by have := List.count_pos_iff.mpr q; omega⟩
      rw [if_pos h1, hm]
      exact br_rep (fun c b => br_hol c b) m c b
    · have h1 : ¬ s.contains x = true := by simpa using q
      rw [if_neg h1, List.count_eq_zero.mpr q]
      exact br_hol c b
theorem holF_eq {x : Nat} : ∀ {S : List (List Nat)} {k : Nat}, holF k S x = (List.range' k S.length).filter (fun i => (S.getD (i - k) []).contains x)
  | [], k => by simp [holF]
  | s :: S, k => by
    have ih := holF_eq (x := x) (S := S) (k := k + 1)
    unfold holF
    rw [ih, List.length_cons, List.range'_succ, List.filter_cons]
    have e : (List.range' (k + 1) S.length).filter (fun i => (S.getD (i - (k + 1)) []).contains x) = (List.range' (k + 1) S.length).filter (fun i => ((s :: S).getD (i - k) []).contains x) := by
      refine List.filter_congr fun i hi => ?_
      have h1 := (List.mem_range'_1.mp hi).1
      obtain ⟨j, rfl⟩ : ∃ j, i = k + 1 + j := ⟨i - (k + 1), by omega⟩
      have e1 : k + 1 + j - (k + 1) = j := by omega
      have e2 : k + 1 + j - k = j + 1 := by omega
      rw [e1, e2]
      rfl
    rw [e]
    have e3 : ((s :: S).getD (k - k) []).contains x = s.contains x := by
      rw [Nat.sub_self]
      rfl
    rw [e3]
    split <;> simp
theorem hol_eq {S : List (List Nat)} {x : Nat} : hol S x = holF 0 S x := by
  rw [holF_eq, hol, List.range_eq_range']
  rfl
theorem br_holS {S : List (List Nat)} {x : Nat} (c b : List Nat) : br (holR 0 S x) c b = br (hol S x) c b := by rw [br_hol, hol_eq]
theorem mem_holR {x i : Nat} : ∀ {S : List (List Nat)} {k : Nat}, i ∈ holR k S x ↔ i ∈ holF k S x
  | [], k => Iff.rfl
  | s :: S, k => by
    unfold holR holF
    rw [List.mem_append, List.mem_append, mem_holR, List.mem_replicate]
    by_cases q : x ∈ s
    · have h1 : s.contains x = true := by simpa using q
      have hp := List.count_pos_iff.mpr q
      rw [if_pos h1]
      constructor
      · rintro (⟨_, rfl⟩ | z)
        · exact .inl (List.mem_singleton.mpr rfl)
        · exact .inr z
      · intro z
        rcases z with z | z
        · exact .inl ⟨by omega, List.mem_singleton.mp z⟩
        · exact .inr z
    · have h1 : ¬ s.contains x = true := by simpa using q
      rw [if_neg h1, List.count_eq_zero.mpr q]
      simp
theorem mem_holS {S : List (List Nat)} {x i : Nat} : i ∈ holR 0 S x ↔ i ∈ hol S x := by rw [mem_holR, hol_eq]
theorem nil_iff {α : Type} {L L' : List α} (h : ∀ i, i ∈ L ↔ i ∈ L') : L = [] ↔ L' = [] := by
  rw [List.eq_nil_iff_forall_not_mem, List.eq_nil_iff_forall_not_mem]
  exact ⟨fun z i hi => z i ((h i).mpr hi), fun z i hi => z i ((h i).mp hi)⟩
theorem nil_holS {S : List (List Nat)} {x : Nat} : holR 0 S x = [] ↔ hol S x = [] := nil_iff fun _ => mem_holS
theorem hit_holS {S : List (List Nat)} {x : Nat} {c : List Nat} (hc : ∀ k ∈ c, k < S.length) : c.any (holR 0 S x).contains = hit S x c := by
  unfold hit
  induction c with
  | nil => rfl
  | cons k c ih =>
    rw [List.any_cons, List.any_cons, ih fun j hj => hc j (List.mem_cons_of_mem _ hj)]
    congr 1
    have h1 := hc k List.mem_cons_self
    have h2 : (holR 0 S x).contains k = true ↔ holds S x k = true := by
      rw [List.contains_iff_mem, mem_holS, mem_hol]
      exact ⟨fun z => z.2, fun z => ⟨h1, z⟩⟩
    cases z1 : (holR 0 S x).contains k <;> cases z2 : holds S x k <;> rw [z1, z2] at h2 <;> simp at h2 <;> rfl
theorem holR_len {x : Nat} : ∀ {S : List (List Nat)} {k : Nat}, (∀ s ∈ S, s.length ≤ 5) → (holR k S x).length ≤ 5 * S.length
  | [], k, _ => Nat.zero_le _
  | s :: S, k, h => by
    have h1 := holR_len (x := x) (S := S) (k := k + 1) fun s hs => h s (List.mem_cons_of_mem _ hs)
    have h2 := h s List.mem_cons_self
    have h3 := List.count_le_length (a := x) (l := s)
    unfold holR
    rw [List.length_append, List.length_replicate, List.length_cons]
    omega
theorem hol_ne {S : List (List Nat)} {e : Nat} : hol S e ≠ [] ↔ ∃ s ∈ S, e ∈ s := by
  constructor
  · intro h
    obtain ⟨k, hk⟩ := List.exists_mem_of_ne_nil _ h
    obtain ⟨h1, h2⟩ := mem_hol.mp hk
    unfold holds at h2
    rw [List.getD_eq_getElem?_getD, List.getElem?_eq_getElem h1] at h2
    exact ⟨S[k], List.getElem_mem _, by simpa using h2⟩
  · rintro ⟨s, hs, he⟩ h
    obtain ⟨k, hk, e1⟩ := List.getElem_of_mem hs
    have : k ∈ hol S e := mem_hol.mpr ⟨hk, by
      unfold holds
      rw [List.getD_eq_getElem?_getD, List.getElem?_eq_getElem hk]
      simpa [e1] using he⟩
    rw [h] at this
    exact absurd this (by simp)
end WX
/-! WO: instances of own classes. -/
namespace WO
open PySem PySem.Spec PyProof.Rows L2 Wy WN WQ
/-- a method of a class of the top -/
structure MetOk (K : PySem.W.Frag) (C m qual : Str) (st : Stmt) : Prop where
  ex : ∃ f fd, FunD K m qual (defArgs st) (defBody st) (defScope st) [] [] f fd ∧ Meth K (He.ga K C) m f
structure MakOk (K : PySem.W.Frag) (mg : Str → Option Value) (C qual : Str) (st : Stmt) : Prop where
  ex : ∃ f fd, FunD K "__init__" qual (defArgs st) (defBody st) (defScope st) [] [] f fd ∧ Mk K (He.ga K C) f ∧ mg C = some (.ref (He.ga K C))
section
variable {P : Program} {w : World} {K : PySem.W.Frag} {mg : Str → Option Value} {base : Heap} {C m qual : Str} {st : Stmt} {N ps : List Str} {k : Nat} {sp : Sp}
theorem met_of (F : MetOk K C m qual st) (cl : Cls K (He.ga K C)) (S : FnScope N ps (defScope st)) (hb : ∀ f fd, FunD K m qual (defArgs st) (defBody st) (defScope st) [] [] f fd → Binds K fd ps []) (len : ∀ vs H Q E, sp vs H Q E → vs.length = ps.length)
    (body : ∀ (f : Addr) (cdv : Value) (A : Around) (outer : List Env) (s : Shared) (H : Hp) (vs : List V) (Q : VK) (E : XK), Room k (A.deeper (envOfC qual (defScope st) s.heap.objs.size f cdv)) → sp vs H Q E →
      ∃ t, PSs (cxOf CX0 P w K mg base N qual (defScope st) f cdv A outer s H E).nox (defBody st) t ∧ t { nx := fun _ H' => Q .non H', rt := Q } (start N vs) H) : C8.Met P w K mg base (k + 1) (He.ga K C) m sp [] := by
  obtain ⟨f, fd, F, hm⟩ := F.ex
  refine ⟨f, fd, ps, [], cl, hm, F.ok S len fun cdv A outer s H vs Q E hr h => ?_, hb f fd F, .nil⟩
  obtain ⟨t, h1, h2⟩ := body f cdv A outer s H vs Q E hr h
  exact ⟨t, PSs.nox h1, h2⟩
theorem mak_of (F : MakOk K mg C qual st) (S : FnScope N ps (defScope st)) (hb : ∀ f fd, FunD K "__init__" qual (defArgs st) (defBody st) (defScope st) [] [] f fd → Binds K fd ps []) (len : ∀ vs H Q E, sp vs H Q E → vs.length = ps.length)
    (body : ∀ (f : Addr) (cdv : Value) (A : Around) (outer : List Env) (s : Shared) (H : Hp) (vs : List V) (Q : VK) (E : XK), Room k (A.deeper (envOfC qual (defScope st) s.heap.objs.size f cdv)) → sp vs H Q E →
      ∃ t, PSs (cxOf CX0 P w K mg base N qual (defScope st) f cdv A outer s H E).nox (defBody st) t ∧ t { nx := fun _ H' => Q .non H', rt := Q } (start N vs) H) : C8.Mak P w K mg base (k + 1) C (He.ga K C) sp [] := by
  obtain ⟨f, fd, F, hm, hg⟩ := F.ex
  refine ⟨f, fd, ps, [], hm, F.ok S len fun cdv A outer s H vs Q E hr h => ?_, hg, hb f fd F, .nil⟩
  obtain ⟨t, h1, h2⟩ := body f cdv A outer s H vs Q E hr h
  exact ⟨t, PSs.nox h1, h2⟩
end
section
variable {X : Cx}
theorem pe_fldK {K : PySem.W.Frag} {e : Expr} {f : Str} {pos : Pos} {ta : TE} (he : PE X e ta) (hK : X.K = K := by rfl) (hb : attributeBase e f X.env (eval e X.env) = eval e X.env := by rfl) : PE X (.Attribute e f pos) (tFld K ta f) := hK ▸ pe_fld he hb
theorem ps_fldK {K : PySem.W.Frag} {o value : Expr} {f : Str} {pos pos' : Pos} {ta tv : TE} (ha : PE X o ta) (hv : PE X value tv) (hK : X.K = K := by rfl) (hs : swapsWith value (some (.Attribute o f pos')) pos.line X.env = pure false := by rfl) :
    PS X (.Assign [.Attribute o f pos'] value pos) (sFld K ta tv f) := hK ▸ ps_fld ha hv hs
theorem ps_fldaugK {K : PySem.W.Frag} {o value : Expr} {f : Str} {pos pos' : Pos} {ta tv : TE} {op : Operator} {rd : V → V → Hp → VK → Prop} (ha : PE X o ta) (hv : PE X value tv) (hop : InOp X op rd) (hK : X.K = K := by rfl) :
    PS X (.AugAssign (.Attribute o f pos') op value pos) (sFldAug K ta tv rd f) := hK ▸ ps_fldaug ha hv hop
end
section
variable {K : PySem.W.Frag} {σ : L2.St} {H : Hp} {Q : VK} {D : Ends} {te ta tv : TE} {tl : TA} {v x y : V} {a C dx : Addr} {fs : List (Str × V)} {f m : Str} {sp : Sp} {dvs : List V} {E : XK}
def KFld (K : PySem.W.Frag) (f : Str) (x : V) (H : Hp) (Q : VK) : Prop := ∃ a C dx fs v, x = V.ref a ∧ H a = some (.ins C dx fs) ∧ Cls K C ∧ NoAttr K C f ∧ fs.lookup f = some v ∧ Q v H
theorem e_fld (h : te σ H fun x H1 => KFld K f x H1 Q) : tFld K te f σ H Q := h
theorem k_fld (e : H a = some (.ins C dx fs)) (c : Cls K C) (n : NoAttr K C f) (l : fs.lookup f = some v) (h : Q v H) : KFld K f (.ref a) H Q := ⟨a, C, dx, fs, v, rfl, e, c, n, l, h⟩
def KFldS (K : PySem.W.Frag) (f : Str) (y : V) (D : Ends) (σ : L2.St) (x : V) (H : Hp) : Prop := ∃ a C dx fs, x = V.ref a ∧ H a = some (.ins C dx fs) ∧ Cls K C ∧ NoAttr K C f ∧ fs.length < 1000 ∧ D.nx σ (upd H a (.ins C dx (putF f y fs)))
theorem s_fld (h : tv σ H fun y H1 => ta σ H1 fun x H2 => KFldS K f y D σ x H2) : sFld K ta tv f D σ H := h
theorem k_fldS (e : H a = some (.ins C dx fs)) (c : Cls K C) (n : NoAttr K C f) (l : fs.length < 1000) (h : ∀ H2, Chg a H H2 → H2 a = some (.ins C dx (putF f y fs)) → D.nx σ H2) : KFldS K f y D σ (.ref a) H := ⟨a, C, dx, fs, rfl, e, c, n, l, h _ chg_upd upd_same⟩
theorem s_fldaug {i : Nat} {j c : Int} (ev : σ[i]? = some (some (.ref a))) (e : H a = some (.ins C dx fs)) (cl : Cls K C) (n : NoAttr K C f) (l : fs.lookup f = some (.int j)) (sm : fs.length < 1000) (h : ∀ H2, Chg a H H2 → H2 a = some (.ins C dx (putF f (.int (j + c)) fs)) → D.nx σ H2) :
    sFldAug K (tVar i) (tC (.int c)) rAdd f D σ H := ⟨.ref a, ev, a, C, dx, fs, .int j, rfl, e, cl, n, l, j, c, rfl, rfl, dx, fs, e, sm, h _ chg_upd upd_same⟩
theorem l_tup {xs : List V} {lo hi : Option Int} (e : H a = some (.tup xs)) (nw : ¬ (HT.sIx xs.length 0 lo = 0 ∧ HT.sIx xs.length xs.length hi = xs.length)) (h : ∀ p H2, H p = none → Same H H2 → H2 p = some (.tup (cutV xs lo hi)) → Q (.ref p) H2) : rSlA K (.ref a) lo hi H Q :=
  ⟨a, xs, rfl, tup_of e, fun z => absurd z nw, fun _ => new_same h⟩
def rBool : List V → Hp → VK → Prop := fun xs H Q => (∃ i, xs = [.int i] ∧ Q (.bl (i != 0)) H) ∨ ∃ k, xs = [.bl k] ∧ Q (.bl k) H
theorem call_bool2 {X : Cx} : CallR X (.type "bool") rBool := call_bool1
theorem b_boolB {b : Bool} (h : Q (.bl b) H) : rBool [.bl b] H Q := .inr ⟨b, rfl, h⟩
theorem o_tup0 {x : V} {xs : List V} (e : H a = some (.tup (x :: xs))) (h : Q x H) : rIx K (.ref a) (.int 0) H Q := o_ixT (tup_of e) (atI_nat (j := 0) rfl) h
theorem o_tup1 {x y : V} {xs : List V} (e : H a = some (.tup (x :: y :: xs))) (h : Q y H) : rIx K (.ref a) (.int 1) H Q := o_ixT (tup_of e) (atI_nat (j := 1) rfl) h
def KMeth (C : Addr) (m : Str) (sp : Sp) (dvs : List V) (E : XK) (t : TA) (σ : L2.St) (x : V) (H : Hp) (Q : VK) : Prop := ∃ a dx fs, x = V.ref a ∧ H a = some (.ins C dx fs) ∧ fs.lookup m = none ∧ t σ H fun vs H2 => sp (x :: (vs ++ dvs)) H2 Q E
theorem e_meth (h : te σ H fun x H1 => KMeth C m sp dvs E tl σ x H1 Q) : tMeth C m sp dvs E te tl σ H Q := h
theorem k_meth (e : H a = some (.ins C dx fs)) (l : fs.lookup m = none) (h : tl σ H fun vs H2 => sp (.ref a :: (vs ++ dvs)) H2 Q E) : KMeth C m sp dvs E tl σ (.ref a) H Q := ⟨a, dx, fs, rfl, e, l, h⟩
def KMake (C : Addr) (sp : Sp) (dvs : List V) (E : XK) (vs : List V) (H1 : Hp) (Q : VK) : Prop := ∀ x dx, H1 x = none → H1 dx = none → dx ≠ x → sp (.ref x :: (vs ++ dvs)) (upd (upd H1 dx (.own x)) x (.ins C dx [])) (fun v H2 => v = .non ∧ Q (.ref x) H2) E
theorem e_make (h : tl σ H fun vs H1 => KMake C sp dvs E vs H1 Q) : tMake C sp dvs E tl σ H Q := h
theorem k_make {vs : List V} (h : ∀ x dx H2, H x = none → H dx = none → dx ≠ x → Same H H2 → H2 x = some (.ins C dx []) → H2 dx = some (.own x) → sp (.ref x :: (vs ++ dvs)) H2 (fun v H3 => v = .non ∧ Q (.ref x) H3) E) : KMake C sp dvs E vs H Q := fun x dx nx nd ne =>
  h x dx _ nx nd ne (fun b o e => by rw [upd_ne (ne_of_none e nx), upd_ne (ne_of_none e nd)]; exact e) upd_same (by rw [upd_ne ne]; exact upd_same)
end
section
variable {K : PySem.W.Frag} {H : Hp} {Q : VK} {a b : Addr} {xs ys : List V}
theorem o_catT (ha : H a = some (.tup xs)) (hb : H b = some (.tup ys)) (hz : xs.length + ys.length ≤ sizeLine) (h : ∀ p H2, Same H H2 → H2 p = some (.tup (xs ++ ys)) → Q (.ref p) H2) : rCatA K (.ref a) (.ref b) H Q := by
  refine ⟨a, b, xs, ys, rfl, rfl, tup_of ha, tup_of hb, hz, fun e => h _ _ (Same.refl _) ?_, fun _ e => h _ _ (Same.refl _) ?_, fun _ _ => new_same fun p H2 _ s e => h _ _ s e⟩
  · rw [e, List.nil_append]
    exact hb
  · rw [e, List.append_nil]
    exact ha
end
/-! ### walks of any kind -/
section
variable {K : PySem.W.Frag} {σ : L2.St} {H : Hp} {Q : VK} {D : Ends} {t : TS} {te : TE} {tt : TT} {g : TG} {vs : List Nat} {J : It} {n : Nat} {G : Hp → Prop} {Y : Nat → Hp → V → Hp → Prop} {tl : TA}
theorem f_it (w : Walk J n G Y) (Pv : Nat → L2.St → Hp → Prop) (h0 : Pv 0 σ H) (hG : ∀ i σ H, i ≤ n → Pv i σ H → G H)
    (hs : ∀ i x σ H H', i < n → Pv i σ H → Y i H x H' → g x σ H' fun σ2 H2 => t ⟨Pv (i + 1), D.rt, D.nx, Pv (i + 1)⟩ σ2 H2) (hd : ∀ σ H, Pv n σ H → D.nx σ H) : LoopF J g t D σ H := for_it w Pv h0 hG hs hd
/-- a comprehension: what is taken so far, kept while only the new list changes -/
theorem c_it (w : Walk J n G Y) (R : Addr → Nat → List V → Hp → Prop) (hG : ∀ H', Same H H' → G H') (hY : ∀ i H1 x H2, Y i H1 x H2 → Same H1 H2) (small : n < sizeLine) (len : ∀ D i acc H1, R D i acc H1 → acc.length ≤ i)
    (mono : ∀ D i acc H1 H2, Chg D H1 H2 → (∃ ys, H1 D = some (.lst ys)) → R D i acc H1 → R D i acc H2) (r0 : ∀ D H1, H D = none → Same H H1 → H1 D = some (.lst []) → R D 0 [] H1)
    (step : ∀ D i x H1 H2 acc (N : VK) (M : Hp → Prop), i < n → H D = none → Same H H1 → H1 D = some (.lst acc) → R D i acc H1 → Y i H1 x H2 → Same H1 H2 → (∀ y H3, Same H2 H3 → R D (i + 1) (acc ++ [y]) H3 → N y H3) → (∀ H3, Same H2 H3 → R D (i + 1) acc H3 → M H3) →
      g x (wipe σ vs) H2 fun σ2 H2 => wipe σ2 vs = wipe σ vs ∧ tt σ2 H2 fun b H3 => if b = true then te σ2 H3 N else M H3)
    (post : ∀ D H2 ys, H D = none → Same H H2 → H2 D = some (.lst ys) → R D n ys H2 → Q (.ref D) H2) : LoopC J g tt te vs σ H Q := by
  intro D nD
  refine lc_it w (fun i H1 => Same H H1 ∧ ∃ acc, H1 D = some (.lst acc) ∧ R D i acc H1) ⟨same_new nD, [], upd_same, r0 D _ nD (same_new nD) upd_same⟩ (fun i H1 _ p => hG _ p.1) (fun i x H1 H2 hi p y => ?_) (fun H1 ⟨s1, acc, e1, r1⟩ => post D H1 acc nD s1 e1 r1)
  obtain ⟨s1, acc, e1, r1⟩ := p
  have s2 := hY _ _ _ _ y
  refine step D i x H1 H2 acc _ _ hi nD s1 e1 r1 y s2 (fun y H3 s3 r3 => ?_) (fun H3 s3 r3 => ⟨s1.trans (s2.trans s3), acc, s3 _ _ (s2 _ _ e1), r3⟩)
  have e3 := s3 _ _ (s2 _ _ e1)
  refine ⟨acc, e3, by have := len D i acc H1 r1; omega, (chg_upd (p := D)).same (s1.trans (s2.trans s3)) nD, _, upd_same, mono D _ _ _ _ chg_upd ⟨_, e3⟩ r3⟩
theorem yat_same {xs : List V} {i : Nat} {H1 H2 : Hp} {x : V} (y : YAt xs i H1 x H2) : Same H1 H2 := by
  rw [y.1]
  exact Same.refl _
theorem ypair_same {f1 f2 : Nat → Option V} {i : Nat} {H1 H2 : Hp} {x : V} (y : YPair f1 f2 i H1 x H2) : Same H1 H2 := by
  obtain ⟨T, a, b, rfl, h, rfl, _⟩ := y
  exact same_new h
/-- new lists by place -/
theorem c_rows {lo : Int} {i : Nat} (F : Nat → List V) (hte : ∀ (j : Nat) H1 (N : VK), j < n → Same H H1 → (∀ r H3, Same H1 H3 → H1 r = none → H3 r = some (.lst (F j)) → N (.ref r) H3) → te ((wipe σ vs).set i (some (.int (lo + j)))) H1 N) (hz : n ≤ 100000) (hw : ∀ x, wipe ((wipe σ vs).set i (some x)) vs = wipe σ vs)
    (post : ∀ D H2 (rs : List Addr), H D = none → Same H H2 → H2 D = some (.lst (rs.map V.ref)) → rs.length = n → (∀ (j : Nat) (r : Addr), rs[j]? = some r → H r = none ∧ H2 r = some (.lst (F j))) → Q (.ref D) H2) : LoopC (Itr lo n) (gName i) tYes te vs σ H Q := by
  refine c_it (walk_range (lo := lo) (n := n)) (fun D i acc H4 => acc.length = i ∧ ∀ (j : Nat) (y : V), acc[j]? = some y → ∃ r, y = .ref r ∧ r ≠ D ∧ H r = none ∧ H4 r = some (.lst (F j))) (fun _ _ => True.intro) (fun i H1 x H2 y => by rw [y.1]; exact Same.refl _) (small1000' hz)
    (fun D i acc H1 o => Nat.le_of_eq o.1) (fun D i acc H5 H6 c ⟨ys, e⟩ o => ⟨o.1, fun j y g => ?_⟩) (fun D H4 nD s e => ⟨rfl, fun j y g => by cases g⟩) (fun D j xx H4 H5 acc N M' hi nD s4 eD o y s5 hN hM => ?_) (fun D H4 ys nD s4 e4 o => ?_)
  · obtain ⟨r, rfl, hr, hr0, f⟩ := o.2 j y g
    exact ⟨r, rfl, hr, hr0, c.at f hr⟩
  · obtain ⟨rfl, rfl⟩ := y
    refine g_name ⟨hw _, t_yes ?_⟩
    refine iteTT rfl (hte j _ _ hi s4 fun r H6 s6 n6 e6 => ?_)
    refine hN _ _ s6 ⟨by rw [List.length_append, o.1]; rfl, fun k y g => ?_⟩
    by_cases hj : k < acc.length
    · rw [List.getElem?_append_left hj] at g
      obtain ⟨r1, rfl, hr, hr0, f⟩ := o.2 k y g
      exact ⟨r1, rfl, hr, hr0, s6 _ _ f⟩
    · have hj2 := (List.getElem?_eq_some_iff.mp g).1
      rw [List.length_append, List.length_singleton] at hj2
      have : k = acc.length := by omega
      subst this
      rw [List.getElem?_append_right (Nat.le_refl _), Nat.sub_self] at g
      cases g
      refine ⟨r, rfl, fun e => ?_, s4.free n6, by rw [o.1]; exact e6⟩
      subst e
      rw [eD] at n6
      cases n6
  · obtain ⟨rs, rfl⟩ : ∃ rs : List Addr, ys = rs.map V.ref := by
      have : ∀ ys : List V, (∀ y ∈ ys, ∃ r, y = .ref r) → ∃ rs : List Addr, ys = rs.map V.ref := by
        intro ys
        induction ys with
        | nil => exact fun _ => ⟨[], rfl⟩
        | cons y r ih =>
          intro h
          obtain ⟨i, rfl⟩ := h y List.mem_cons_self
          obtain ⟨xs, rfl⟩ := ih fun z hz => h z (List.mem_cons_of_mem _ hz)
          exact ⟨i :: xs, rfl⟩
      exact this ys fun y hy => by
        obtain ⟨j, hj, e⟩ := List.getElem_of_mem hy
        obtain ⟨r, h, _⟩ := o.2 j y (by rw [List.getElem?_eq_getElem hj, e])
        exact ⟨r, h⟩
    have lr := o.1
    rw [List.length_map] at lr
    refine post D H4 rs nD s4 e4 lr fun j r g => ?_
    obtain ⟨r', h, _, h2, h3⟩ := o.2 j (.ref r) (by rw [List.getElem?_map, g]; rfl)
    cases h
    exact ⟨h2, h3⟩
theorem w_zip {R : It → Hp → Prop} (h : tl σ H fun vs H1 => ∃ a b xs ys, vs = [.ref a, .ref b] ∧ SqL K H1 a xs ∧ SqL K H1 b ys ∧ R (Itz K a b) H1) : iZip K tl σ H R := h
theorem w_enum {R : It → Hp → Prop} (h : tl σ H fun vs H1 => ∃ a xs, vs = [.ref a] ∧ SqL K H1 a xs ∧ R (Ite K a) H1) : iEnum K tl σ H R := h
end
end WO
/-! WT: tables of bounds. -/
namespace WT
open PySem PySem.Spec PyProof.Rows L2 Wy WN WQ WS WC
abbrev Cell := Option (Int × List Int)
def cellD : Cell → PyData
  | none => .none
  | some p => .tuple [.int p.1, iT p.2]
def joinC (a b : Int × List Int) : Int × List Int := (a.1 + b.1, a.2 ++ b.2)
def shorter (old : Cell) (th : Int × List Int) : Cell → Cell
  | none => old
  | some r => match old with
    | some o => if o.1 ≤ th.1 + r.1 then some o else some (joinC th r)
    | none => some (joinC th r)
theorem shorter_some {o th r : Int × List Int} : shorter (some o) th (some r) = if o.1 ≤ th.1 + r.1 then some o else some (joinC th r) := rfl
def rowStep (known : List Cell) (before : Cell) (step : Int × List Int) (behind : List Cell) : List Cell := match before with
  | none => known
  | some b => (known.zip behind).map fun p => shorter p.1 (joinC b step) p.2
abbrev Tab := List (List Cell)
def cell (M : Tab) (i j : Nat) : Cell := (M.getD i []).getD j none
def bring (M : Tab) (u v : Nat) (step : Int × List Int) : Tab := M.map fun known => rowStep known (known.getD u none) step (M.getD v [])
def Sq2 (M : Tab) (n : Nat) : Prop := M.length = n + 1 ∧ ∀ row ∈ M, row.length = n + 1
/-- the ring that a difference closes -/
def ringOf (M : Tab) (d : Df) : Option (List Int) := match cell M d.2.1.toNat d.1.toNat with
  | some b => if d.2.2 + b.1 < 0 then some b.2 else none
  | none => none
def tieM (M : Tab) (d : Df) (k : Nat) : Tab := match cell M d.1.toNat d.2.1.toNat with
  | some h => if d.2.2 < h.1 then bring M d.1.toNat d.2.1.toNat (d.2.2, [(k : Int)]) else M
  | none => bring M d.1.toNat d.2.1.toNat (d.2.2, [(k : Int)])
def tab0 (n : Nat) : Tab := (List.range (n + 1)).map fun u => (List.range (n + 1)).map fun v => if v = u then some (0, []) else none
theorem cell_at {M : Tab} {n i j : Nat} (h : Sq2 M n) (hi : i ≤ n) (hj : j ≤ n) : ∃ row, M[i]? = some row ∧ row[j]? = some (cell M i j) := by
  have h1 : i < M.length := by rw [h.1]; omega
  have h2 := h.2 _ (List.getElem_mem h1)
  refine ⟨M[i], List.getElem?_eq_getElem h1, ?_⟩
  unfold cell
  rw [List.getD_eq_getElem?_getD (l := M), List.getElem?_eq_getElem h1]
  show M[i][j]? = some (M[i].getD j none)
  rw [List.getD_eq_getElem?_getD, List.getElem?_eq_getElem (by omega)]
  rfl
theorem row_of {M : Tab} {n i : Nat} (h : Sq2 M n) (hi : i ≤ n) : M[i]? = some (M.getD i []) := by
  have h1 : i < M.length := by rw [h.1]; omega
  rw [List.getD_eq_getElem?_getD, List.getElem?_eq_getElem h1]
  rfl
theorem tab0_sq (n : Nat) : Sq2 (tab0 n) n := by
  refine ⟨by simp [tab0], fun row hr => ?_⟩
  obtain ⟨u, _, rfl⟩ := List.mem_map.mp hr
  simp
theorem tab0_cell {n i j : Nat} (hi : i ≤ n) (hj : j ≤ n) : cell (tab0 n) i j = if j = i then some (0, []) else none := by
  unfold cell tab0
  rw [List.getD_eq_getElem?_getD (l := List.map _ _) (i := i), List.getElem?_map, List.getElem?_range (by omega)]
  show ((List.range (n + 1)).map _).getD j none = _
  rw [List.getD_eq_getElem?_getD, List.getElem?_map, List.getElem?_range (by omega)]
  rfl
theorem rowStep_len {known behind : List Cell} {before : Cell} {step : Int × List Int} (h : known.length = behind.length) : (rowStep known before step behind).length = known.length := by
  unfold rowStep
  cases before with
  | none => rfl
  | some b => simp; omega
theorem bring_sq {M : Tab} {n u v : Nat} {step : Int × List Int} (h : Sq2 M n) (hv : v ≤ n) : Sq2 (bring M u v step) n := by
  refine ⟨by unfold bring; rw [List.length_map]; exact h.1, fun row hr => ?_⟩
  obtain ⟨known, hk, rfl⟩ := List.mem_map.mp hr
  have h1 := h.2 _ hk
  have h2 := h.2 _ (List.mem_of_getElem? (row_of h hv))
  rw [rowStep_len (by omega)]
  exact h1
theorem bring_cell {M : Tab} {n u v i j : Nat} {step : Int × List Int} (h : Sq2 M n) (hu : u ≤ n) (hv : v ≤ n) (hi : i ≤ n) (hj : j ≤ n) :
    cell (bring M u v step) i j = match cell M i u with | none => cell M i j | some b => shorter (cell M i j) (joinC b step) (cell M v j) := by
  obtain ⟨row, g1, g2⟩ := cell_at h hi hj
  obtain ⟨_, g3, g4⟩ := cell_at h hi hu
  obtain ⟨rv, g5, g6⟩ := cell_at h hv hj
  rw [g1] at g3
  cases g3
  have gu : row.getD u none = cell M i u := by rw [List.getD_eq_getElem?_getD, g4]; rfl
  have ge : (bring M u v step)[i]? = some (rowStep row (cell M i u) step rv) := by
    unfold bring
    rw [List.getElem?_map, g1, List.getD_eq_getElem?_getD (l := M), g5]
    show some (rowStep row (row.getD u none) step rv) = _
    rw [gu]
  unfold cell
  rw [List.getD_eq_getElem?_getD (l := bring M u v step), ge]
  show (rowStep row (cell M i u) step rv).getD j none = _
  show _ = match cell M i u with | none => cell M i j | some b => shorter (cell M i j) (joinC b step) (cell M v j)
  unfold rowStep
  cases cell M i u with
  | none =>
    show row.getD j none = _
    rw [List.getD_eq_getElem?_getD, g2]
    rfl
  | some b =>
    show ((row.zip rv).map _).getD j none = _
    rw [List.getD_eq_getElem?_getD, List.getElem?_map, show (row.zip rv)[j]? = some (cell M i j, cell M v j) from List.getElem?_zip_eq_some.mpr ⟨g2, g6⟩]
    rfl
/-! ### bounds alone -/
def relax (b x : Option Int) (c : Int) (y : Option Int) : Option Int := match x, y with
  | some x, some y => (match b with
    | some o => if o ≤ x + c + y then some o else some (x + c + y)
    | none => some (x + c + y))
  | _, _ => b
abbrev bd (M : Tab) (i j : Nat) : Option Int := (cell M i j).map (·.1)
theorem bring_bd {M : Tab} {n u v i j : Nat} {step : Int × List Int} (h : Sq2 M n) (hu : u ≤ n) (hv : v ≤ n) (hi : i ≤ n) (hj : j ≤ n) : bd (bring M u v step) i j = relax (bd M i j) (bd M i u) step.1 (bd M v j) := by
  unfold bd
  rw [bring_cell h hu hv hi hj]
  cases cell M i u with
  | none => rfl
  | some b =>
    cases cell M v j with
    | none => cases cell M i j <;> rfl
    | some r =>
      cases cell M i j with
      | none => rfl
      | some o =>
        show (shorter (some o) (joinC b step) (some r)).map _ = (if o.1 ≤ b.1 + step.1 + r.1 then _ else _)
        show (shorter (some o) (joinC b step) (some r)).map _ = (if o.1 ≤ (joinC b step).1 + r.1 then some o.1 else some ((joinC b step).1 + r.1))
        rw [shorter_some]
        by_cases q : o.1 ≤ (joinC b step).1 + r.1
        · rw [if_pos q, if_pos q]
          rfl
        · rw [if_neg q, if_neg q]
          rfl
/-- closed: the ground of all bounds -/
structure Cl (n : Nat) (B : Nat → Nat → Option Int) : Prop where
  diag : ∀ i, i ≤ n → B i i = some 0
  tri : ∀ i k j x y, i ≤ n → k ≤ n → j ≤ n → B i k = some x → B k j = some y → ∃ z, B i j = some z ∧ z ≤ x + y
theorem relax_le {b x y : Option Int} {c z : Int} (h : relax b x c y = some z) : b = some z ∨ ∃ p q, x = some p ∧ y = some q ∧ z = p + c + q := by
  unfold relax at h
  cases x with
  | none => exact .inl h
  | some p =>
    cases y with
    | none => exact .inl h
    | some q =>
      cases b with
      | none => exact .inr ⟨p, q, rfl, rfl, (Option.some.inj h).symm⟩
      | some o =>
        have h : (if o ≤ p + c + q then some o else some (p + c + q)) = some z := h
        split at h
        · exact .inl h
        · exact .inr ⟨p, q, rfl, rfl, (Option.some.inj h).symm⟩
theorem relax_old {x y : Option Int} {c o : Int} : ∃ z, relax (some o) x c y = some z ∧ z ≤ o := by
  unfold relax
  cases x with
  | none => exact ⟨o, rfl, Int.le_refl _⟩
  | some p =>
    cases y with
    | none => exact ⟨o, rfl, Int.le_refl _⟩
    | some q =>
      show ∃ z, (if o ≤ p + c + q then some o else some (p + c + q)) = some z ∧ z ≤ o
      split
      · exact ⟨o, rfl, Int.le_refl _⟩
      · exact ⟨_, rfl, by omega⟩
theorem relax_new {b : Option Int} {c p q : Int} : ∃ z, relax b (some p) c (some q) = some z ∧ z ≤ p + c + q := by
  unfold relax
  cases b with
  | none => exact ⟨_, rfl, Int.le_refl _⟩
  | some o =>
    show ∃ z, (if o ≤ p + c + q then some o else some (p + c + q)) = some z ∧ z ≤ p + c + q
    split
    · exact ⟨o, rfl, by assumption⟩
    · exact ⟨_, rfl, Int.le_refl _⟩
/-- a path by old bounds, made shorter -/
theorem Cl.relax {n u v : Nat} {c : Int} {B : Nat → Nat → Option Int} (h : Cl n B) (hu : u ≤ n) (hv : v ≤ n) (hc : ∀ b, B v u = some b → 0 ≤ c + b) : Cl n fun i j => WT.relax (B i j) (B i u) c (B v j) := by
  refine ⟨fun i hi => ?_, fun i k j x y hi hk hj hx hy => ?_⟩
  · obtain ⟨z, e, le⟩ := relax_old (x := B i u) (y := B v i) (c := c) (o := 0)
    show WT.relax (B i i) _ _ _ = _
    rw [h.diag i hi]
    rcases relax_le e with e2 | ⟨p, q, e2, e3, e4⟩
    · rw [e]
      exact e2.symm
    · obtain ⟨b, e5, le2⟩ := h.tri v i u q p hv hi hu e3 e2
      have := hc b e5
      rw [e]
      exact congrArg some (by omega)
  · show ∃ z, WT.relax (B i j) (B i u) c (B v j) = some z ∧ _
    rcases relax_le hx with e1 | ⟨p, q, e1, e2, e3⟩ <;> rcases relax_le hy with f1 | ⟨p', q', f1, f2, f3⟩
    · obtain ⟨z, g1, g2⟩ := h.tri i k j x y hi hk hj e1 f1
      rw [g1]
      obtain ⟨z', g3, g4⟩ := relax_old (x := B i u) (y := B v j) (c := c) (o := z)
      exact ⟨z', g3, by omega⟩
    · obtain ⟨a, g1, g2⟩ := h.tri i k u x p' hi hk hu e1 f1
      rw [g1, f2]
      obtain ⟨z', g3, g4⟩ := relax_new (b := B i j) (c := c) (p := a) (q := q')
      exact ⟨z', g3, by omega⟩
    · obtain ⟨a, g1, g2⟩ := h.tri v k j q y hv hk hj e2 f1
      rw [g1, e1]
      obtain ⟨z', g3, g4⟩ := relax_new (b := B i j) (c := c) (p := p) (q := a)
      exact ⟨z', g3, by omega⟩
    · obtain ⟨b, g1, g2⟩ := h.tri v k u q p' hv hk hu e2 f1
      have := hc b g1
      rw [e1, f2]
      obtain ⟨z', g3, g4⟩ := relax_new (b := B i j) (c := c) (p := p) (q := q')
      exact ⟨z', g3, by omega⟩
/-- what is not shorter brings nothing -/
theorem Cl.idle {n u v i j : Nat} {c g : Int} {B : Nat → Nat → Option Int} (h : Cl n B) (hu : u ≤ n) (hv : v ≤ n) (hi : i ≤ n) (hj : j ≤ n) (hg : B u v = some g) (hc : g ≤ c) : WT.relax (B i j) (B i u) c (B v j) = B i j := by
  unfold WT.relax
  cases e1 : B i u with
  | none => rfl
  | some p =>
    cases e2 : B v j with
    | none => rfl
    | some q =>
      obtain ⟨a, f1, f2⟩ := h.tri i u v p g hi hu hv e1 hg
      obtain ⟨z, f3, f4⟩ := h.tri i v j a q hi hv hj f1 e2
      rw [f3]
      show (if z ≤ p + c + q then some z else _) = _
      rw [if_pos (by omega)]
theorem tie_bd {M : Tab} {n i j k : Nat} {d : Df} (h : Sq2 M n) (hc : Cl n (bd M)) (hd : InR n d) (hi : i ≤ n) (hj : j ≤ n) : bd (tieM M d k) i j = relax (bd M i j) (bd M i d.1.toNat) d.2.2 (bd M d.2.1.toNat j) := by
  obtain ⟨h0, h1, h2, h3⟩ := hd
  have hu : d.1.toNat ≤ n := by omega
  have hv : d.2.1.toNat ≤ n := by omega
  unfold tieM
  cases e : cell M d.1.toNat d.2.1.toNat with
  | none => exact bring_bd h hu hv hi hj
  | some g =>
    show bd (if d.2.2 < g.1 then _ else M) i j = _
    split
    · exact bring_bd h hu hv hi hj
    · exact (hc.idle hu hv hi hj (g := g.1) (by show (cell M _ _).map _ = _; rw [e]; rfl) (by omega)).symm
theorem tie_sq {M : Tab} {n k : Nat} {d : Df} (h : Sq2 M n) (hd : InR n d) : Sq2 (tieM M d k) n := by
  obtain ⟨h0, h1, h2, h3⟩ := hd
  unfold tieM
  cases e : cell M d.1.toNat d.2.1.toNat with
  | none => exact bring_sq h (by omega)
  | some g =>
    show Sq2 (if d.2.2 < g.1 then _ else M) n
    split
    · exact bring_sq h (by omega)
    · exact h
theorem ring_none {M : Tab} {d : Df} (h : ringOf M d = none) : ∀ b, bd M d.2.1.toNat d.1.toNat = some b → 0 ≤ d.2.2 + b := by
  intro b hb
  unfold bd at hb
  unfold ringOf at h
  cases e : cell M d.2.1.toNat d.1.toNat with
  | none =>
    rw [e] at hb
    cases hb
  | some g =>
    rw [e] at hb h
    have hb : g.1 = b := Option.some.inj hb
    have h : (if d.2.2 + g.1 < 0 then some g.2 else none) = none := h
    split at h
    · cases h
    · omega
/-- lengths -/
def Short (M : Tab) (L : Nat) : Prop := ∀ row ∈ M, ∀ c, some c ∈ row → c.2.length ≤ L
theorem shorter_len {L : Nat} {old rest : Cell} {th : Int × List Int} {c : Int × List Int} (h1 : ∀ c, old = some c → c.2.length ≤ L) (h2 : ∀ r, rest = some r → th.2.length + r.2.length ≤ L) (h : shorter old th rest = some c) : c.2.length ≤ L := by
  unfold shorter at h
  cases rest with
  | none => exact h1 c h
  | some r =>
    have := h2 r rfl
    cases old with
    | none =>
      cases h
      simp only [joinC, List.length_append]
      omega
    | some o =>
      have h : (if o.1 ≤ th.1 + r.1 then some o else some (joinC th r)) = some c := h
      split at h
      · exact h1 c h
      · cases h
        simp only [joinC, List.length_append]
        omega
theorem bring_short {M : Tab} {u v : Nat} {c k : Int} {L : Nat} (h : Short M L) : Short (bring M u v (c, [k])) (2 * L + 1) := by
  intro row hr x hx
  obtain ⟨known, hk, rfl⟩ := List.mem_map.mp hr
  unfold rowStep at hx
  cases e : known.getD u none with
  | none =>
    rw [e] at hx
    have := h known hk x hx
    omega
  | some b =>
    rw [e] at hx
    have hb : b.2.length ≤ L := h known hk b (by
      rw [List.getD_eq_getElem?_getD] at e
      cases e2 : known[u]? with
      | none =>
        rw [e2] at e
        cases e
      | some y =>
        rw [e2] at e
        have e : y = some b := e
        rw [← e]
        exact List.mem_of_getElem? e2)
    obtain ⟨⟨o, r⟩, hp, e2⟩ := List.mem_map.mp hx
    have ho := (List.of_mem_zip hp).1
    have hr := (List.of_mem_zip hp).2
    refine shorter_len (fun c hc => ?_) (fun c hc => ?_) e2
    · have := h known hk c (hc ▸ ho)
      omega
    · have hm : M.getD v [] ∈ M := by
        rw [List.getD_eq_getElem?_getD] at hr ⊢
        cases e3 : M[v]? with
        | none =>
          rw [e3] at hr
          cases hr
        | some y => exact List.mem_of_getElem? e3
      have := h _ hm c (hc ▸ hr)
      simp only [joinC, List.length_append, List.length_singleton]
      omega
theorem tie_short {M : Tab} {d : Df} {k L : Nat} (h : Short M L) : Short (tieM M d k) (2 * L + 1) := by
  have h' : Short M (2 * L + 1) := fun r hr c hc => by have := h r hr c hc; omega
  unfold tieM
  cases e : cell M d.1.toNat d.2.1.toNat with
  | none => exact bring_short h
  | some g =>
    show Short (if d.2.2 < g.1 then _ else M) _
    split
    · exact bring_short h
    · exact h'
/-! ### a System in the heap -/
structure Spot where
  dx : Addr
  dl : Addr
  tp : Addr
  rs : List Addr
def RowAt (H : Hp) (r : Addr) (row : List Cell) : Prop := ∃ cs, H r = some (.lst cs) ∧ TpAll H cs (row.map cellD)
abbrev sysFs (S : Spot) (n : Nat) : List (Str × V) := [("many", .int n), ("differences", .ref S.dl), ("_table", .ref S.tp)]
structure SysAt (K : PySem.W.Frag) (H : Hp) (x : Addr) (S : Spot) (n : Nat) (ds : List Df) (M : Tab) : Prop where
  ins : H x = some (.ins (He.ga K "System") S.dx (sysFs S n))
  diffs : ∃ us, H S.dl = some (.lst us) ∧ TpAll H us (ds.map dfD)
  tab : H S.tp = some (.lst (S.rs.map V.ref))
  len : S.rs.length = M.length
  rows : ∀ (i : Nat) (r : Addr) (row : List Cell), S.rs[i]? = some r → M[i]? = some row → RowAt H r row
  ap1 : S.dl ∉ S.rs
  ap2 : S.dl ≠ S.tp
  sq : Sq2 M n
/-- what stands, but for some places -/
def KeepBut (A : List Addr) (H H' : Hp) : Prop := ∀ b o, b ∉ A → H b = some o → H' b = some o
theorem KeepBut.refl {A : List Addr} {H : Hp} : KeepBut A H H := fun _ _ _ e => e
theorem KeepBut.trans {A : List Addr} {H H1 H2 : Hp} (h : KeepBut A H H1) (k : KeepBut A H1 H2) : KeepBut A H H2 := fun b o n e => k b o n (h b o n e)
theorem Same.but {A : List Addr} {H H1 : Hp} (s : Same H H1) : KeepBut A H H1 := fun b o _ e => s b o e
theorem Chg.but {A : List Addr} {p : Addr} {H H1 : Hp} (c : Chg p H H1) (h : p ∈ A) : KeepBut A H H1 := fun b o n e => c.at e (fun q => n (q ▸ h))
theorem KeepBut.mono {A B : List Addr} {H H1 : Hp} (h : KeepBut A H H1) (s : ∀ a ∈ A, a ∈ B) : KeepBut B H H1 := fun b o n e => h b o (fun q => n (s b q)) e
/-- not a tuple -/
def noTup : HO → Bool
  | .tup _ => false
  | _ => true
theorem KeepBut.tk {A : List Addr} {H H1 : Hp} (h : KeepBut A H H1) (ht : ∀ a ∈ A, ∃ o, H a = some o ∧ noTup o = true) : TK H H1 := fun a xs e => h a _ (fun q => by
  obtain ⟨o, e2, n⟩ := ht a q
  rw [e] at e2
  cases e2
  cases n) e
theorem SysAt.keep {K : PySem.W.Frag} {H H' : Hp} {x : Addr} {S : Spot} {n : Nat} {ds : List Df} {M : Tab} (s : SysAt K H x S n ds M) {A : List Addr} (k : KeepBut A H H') (tk : TK H H') (h1 : x ∉ A) (h2 : S.dl ∉ A) (h3 : S.tp ∉ A) (h4 : ∀ r ∈ S.rs, r ∉ A) : SysAt K H' x S n ds M := by
  obtain ⟨us, e1, t1⟩ := s.diffs
  refine ⟨k _ _ h1 s.ins, ⟨us, k _ _ h2 e1, t1.tk tk⟩, k _ _ h3 s.tab, s.len, fun i r row hr hm => ?_, s.ap1, s.ap2, s.sq⟩
  obtain ⟨cs, e2, t2⟩ := s.rows i r row hr hm
  exact ⟨cs, k _ _ (h4 r (List.mem_of_getElem? hr)) e2, t2.tk tk⟩
theorem SysAt.same {K : PySem.W.Frag} {H H' : Hp} {x : Addr} {S : Spot} {n : Nat} {ds : List Df} {M : Tab} (s : SysAt K H x S n ds M) (k : Same H H') : SysAt K H' x S n ds M :=
  s.keep (A := []) (Same.but k) k.tk (by simp) (by simp) (by simp) (by simp)
theorem SysAt.get {K : PySem.W.Frag} {H : Hp} {x : Addr} {S : Spot} {n : Nat} {ds : List Df} {M : Tab} (s : SysAt K H x S n ds M) {u : Nat} (hu : u ≤ n) : ∃ r cs, S.rs[u]? = some r ∧ H r = some (.lst cs) ∧ TpAll H cs ((M.getD u []).map cellD) ∧ cs.length = n + 1 := by
  have hm := row_of s.sq hu
  have hl := s.sq.2 _ (List.mem_of_getElem? hm)
  have h1 : u < S.rs.length := by rw [s.len, s.sq.1]; omega
  obtain ⟨cs, e, t⟩ := s.rows u S.rs[u] _ (List.getElem?_eq_getElem h1) hm
  refine ⟨_, cs, List.getElem?_eq_getElem h1, e, t, ?_⟩
  rw [t.length, List.length_map]
  exact hl
theorem row_cell {H : Hp} {M : Tab} {n u v : Nat} {cs : List V} (hq : Sq2 M n) (hu : u ≤ n) (hv : v ≤ n) (t : TpAll H cs ((M.getD u []).map cellD)) : ∃ y, cs[v]? = some y ∧ Tp H y (cellD (cell M u v)) := by
  obtain ⟨row, g1, g2⟩ := cell_at hq hu hv
  have : M.getD u [] = row := by rw [List.getD_eq_getElem?_getD, g1]; rfl
  rw [this] at t
  exact tpAt t g2
theorem cellN {H : Hp} {y : V} {c : Cell} (t : Tp H y (cellD c)) (e : c = none) : y = .non := by
  subst e
  cases t
  rfl
theorem cellS {H : Hp} {y : V} {c : Cell} {p : Int × List Int} (t : Tp H y (cellD c)) (e : c = some p) : ∃ a b, y = .ref a ∧ H a = some (.tup [.int p.1, .ref b]) ∧ H b = some (.tup (p.2.map V.int)) := by
  subst e
  obtain ⟨a, v1, v2, rfl, e, t1, t2⟩ := WQ.tp2 (show Tp H y (.tuple [.int p.1, iT p.2]) from t)
  cases t1
  obtain ⟨b, rfl, e2⟩ := tpI t2
  exact ⟨a, b, rfl, e, e2⟩
theorem cellT {H : Hp} {a b : Addr} {p : Int × List Int} (e : H a = some (.tup [.int p.1, .ref b])) (e2 : H b = some (.tup (p.2.map V.int))) : Tp H (.ref a) (cellD (some p)) := .tup e (.cons (.int _) (.cons (iT_tp e2) .nil))
theorem refs_of {ys : List V} (h : ∀ (j : Nat) (y : V), ys[j]? = some y → ∃ r, y = .ref r) : ∃ rs : List Addr, ys = rs.map V.ref := by
  have : ∀ ys : List V, (∀ y ∈ ys, ∃ r, y = .ref r) → ∃ rs : List Addr, ys = rs.map V.ref := by
    intro ys
    induction ys with
    | nil => exact fun _ => ⟨[], rfl⟩
    | cons y r ih =>
      intro h
      obtain ⟨i, rfl⟩ := h y List.mem_cons_self
      obtain ⟨xs, rfl⟩ := ih fun z hz => h z (List.mem_cons_of_mem _ hz)
      exact ⟨i :: xs, rfl⟩
  refine this ys fun y hy => ?_
  obtain ⟨j, hj, e⟩ := List.getElem_of_mem hy
  exact h j y (by rw [List.getElem?_eq_getElem hj, e])
/-! ### promises -/
section
variable {K : PySem.W.Frag}
def spSysInit (K : PySem.W.Frag) : Sp := fun vs H Q _ => ∃ (x dx : Addr) (n : Nat), vs = [.ref x, .int n] ∧ H x = some (.ins (He.ga K "System") dx []) ∧ n ≤ 1000 ∧
  ∀ H' S, KeepBut [x] H H' → SysAt K H' x S n [] (tab0 n) → S.dx = dx → H S.dl = none → H S.tp = none → (∀ r ∈ S.rs, H r = none) → Q .non H'
def spBound (K : PySem.W.Frag) : Sp := fun vs H Q _ => ∃ (x : Addr) (S : Spot) (n : Nat) (ds : List Df) (M : Tab) (u v : Int), vs = [.ref x, .int u, .int v] ∧ SysAt K H x S n ds M ∧ 0 ≤ u ∧ u ≤ n ∧ 0 ≤ v ∧ v ≤ n ∧ Q (oI (bd M u.toNat v.toNat)) H
def spTie (K : PySem.W.Frag) : Sp := fun vs H Q _ => ∃ (x : Addr) (d : V) (S : Spot) (n : Nat) (ds : List Df) (M : Tab) (df : Df) (L : Nat), vs = [.ref x, d] ∧ SysAt K H x S n ds M ∧ Tp H d (dfD df) ∧ InR n df ∧ ds.length ≤ 1000 ∧ n ≤ 1000 ∧ Short M L ∧ 2 * L + 1 ≤ 5000000 ∧
  (∀ bs, ringOf M df = some bs → ∀ p H', KeepBut [S.dl] H H' → H p = none → H' p = some (.tup (((ds.length : Int) :: bs).map V.int)) → Q (.ref p) H') ∧
  (ringOf M df = none → ∀ H' S', KeepBut [x, S.dl] H H' → SysAt K H' x S' n (ds ++ [df]) (tieM M df ds.length) → S'.dx = S.dx → S'.dl = S.dl → (S'.tp = S.tp ∨ H S'.tp = none) → (∀ r ∈ S'.rs, r ∈ S.rs ∨ H r = none) → Q .non H')
def spBring (K : PySem.W.Frag) : Sp := fun vs H Q _ => ∃ (x st : Addr) (S : Spot) (n : Nat) (ds : List Df) (M : Tab) (u v : Int) (p : Int × List Int) (L : Nat), vs = [.ref x, .int u, .int v, .ref st] ∧ SysAt K H x S n ds M ∧ Tp H (.ref st) (cellD (some p)) ∧ 0 ≤ u ∧ u ≤ n ∧ 0 ≤ v ∧ v ≤ n ∧ n ≤ 1000 ∧ Short M L ∧ 2 * L + p.2.length ≤ 5000000 ∧
  ∀ H' S', KeepBut [x] H H' → SysAt K H' x S' n ds (bring M u.toNat v.toNat p) → S'.dx = S.dx → S'.dl = S.dl → H S'.tp = none → (∀ r ∈ S'.rs, r ∈ S.rs ∨ H r = none) → Q .non H'
def spRowS (K : PySem.W.Frag) : Sp := fun vs H Q _ => ∃ (r bh : Addr) (bf st : V) (cs ks : List V) (row behind : List Cell) (before : Cell) (p : Int × List Int) (L : Nat), vs = [.ref r, bf, st, .ref bh] ∧ H r = some (.lst cs) ∧ TpAll H cs (row.map cellD) ∧ Tp H bf (cellD before) ∧ Tp H st (cellD (some p)) ∧
  H bh = some (.lst ks) ∧ TpAll H ks (behind.map cellD) ∧ row.length = behind.length ∧ row.length ≤ 2000 ∧ (∀ c, before = some c → c.2.length ≤ L) ∧ (∀ c, some c ∈ behind → c.2.length ≤ L) ∧ 2 * L + p.2.length ≤ 5000000 ∧
  ∀ q H' cs', Same H H' → H' q = some (.lst cs') → TpAll H' cs' ((rowStep row before p behind).map cellD) → (q = r ∨ H q = none) → Q (.ref q) H'
def spJoin (K : PySem.W.Frag) : Sp := fun vs H Q _ => ∃ (x y : V) (a b : Int × List Int), vs = [x, y] ∧ Tp H x (cellD (some a)) ∧ Tp H y (cellD (some b)) ∧ a.2.length + b.2.length ≤ 6000000 ∧ ∀ p H', Same H H' → Tp H' p (cellD (some (joinC a b))) → Q p H'
def spShorter (K : PySem.W.Frag) : Sp := fun vs H Q _ => ∃ (x y z : V) (old rest : Cell) (a : Int × List Int), vs = [x, y, z] ∧ Tp H x (cellD old) ∧ Tp H y (cellD (some a)) ∧ Tp H z (cellD rest) ∧ (∀ c, rest = some c → a.2.length + c.2.length ≤ 6000000) ∧ ∀ p H', Same H H' → Tp H' p (cellD (shorter old a rest)) → Q p H'
def spRaised (K : PySem.W.Frag) : Sp := fun vs H Q _ => ∃ (a b e : Addr) (zs : List Int) (us : List V) (ds : List Df) (vals : List Int), vs = [.ref a, .ref b, .ref e] ∧ SqL K H a (zs.map V.int) ∧ H b = some (.lst us) ∧ TpAll H us (ds.map dfD) ∧ H e = some (.lst (vals.map V.int)) ∧ (∀ d ∈ ds, InR vals.length d) ∧ ds.length ≤ 900 ∧ vals.length ≤ 900 ∧
  ∀ p H' us' ds', Same H H' → H p = none → H' p = some (.lst us') → TpAll H' us' ((ds' : List Df).map dfD) → ds'.length = ds.length → (∀ d ∈ ds', InR vals.length d) → Q (.ref p) H'
/-! ### matrices of bounds -/
structure MatAt (H : Hp) (p : Addr) (rs : List Addr) (n : Nat) (B : Nat → Nat → Option Int) : Prop where
  tab : H p = some (.lst (rs.map V.ref))
  len : rs.length = n + 1
  rows : ∀ (i : Nat) (r : Addr), rs[i]? = some r → H r = some (.lst ((List.range (n + 1)).map fun j => oI (B i j)))
theorem MatAt.same {H H' : Hp} {p : Addr} {rs : List Addr} {n : Nat} {B : Nat → Nat → Option Int} (m : MatAt H p rs n B) (s : Same H H') : MatAt H' p rs n B := ⟨s _ _ m.tab, m.len, fun i r g => s _ _ (m.rows i r g)⟩
theorem MatAt.keep {H H' : Hp} {p : Addr} {rs : List Addr} {n : Nat} {B : Nat → Nat → Option Int} (m : MatAt H p rs n B) {A : List Addr} (k : KeepBut A H H') (h1 : p ∉ A) (h2 : ∀ r ∈ rs, r ∉ A) : MatAt H' p rs n B := ⟨k _ _ h1 m.tab, m.len, fun i r g => k _ _ (h2 r (List.mem_of_getElem? g)) (m.rows i r g)⟩
theorem MatAt.cong {H : Hp} {p : Addr} {rs : List Addr} {n : Nat} {B B' : Nat → Nat → Option Int} (m : MatAt H p rs n B) (h : ∀ i j, i ≤ n → j ≤ n → B i j = B' i j) : MatAt H p rs n B' := ⟨m.tab, m.len, fun i r g => by
  have hi := (List.getElem?_eq_some_iff.mp g).1
  have hl := m.len
  rw [m.rows i r g]
  refine congrArg (fun z => some (HO.lst z)) (List.map_congr_left fun j hj => ?_)
  rw [h i j (by omega) (by have := List.mem_range.mp hj; omega)]⟩
theorem ix_mat {K : PySem.W.Frag} {H : Hp} {Q : VK} {p : Addr} {rs : List Addr} {n : Nat} {B : Nat → Nat → Option Int} (m : MatAt H p rs n B) {i : Int} (h0 : 0 ≤ i) (h1 : i ≤ n) (h : ∀ r, rs[i.toNat]? = some r → H r = some (.lst ((List.range (n + 1)).map fun j => oI (B i.toNat j))) → Q (.ref r) H) : rIx K (.ref p) (.int i) H Q := by
  have hl := m.len
  have g := List.getElem?_eq_getElem (l := rs) (i := i.toNat) (by omega)
  exact o_ixL (lst_of m.tab) (atI_of (j := i.toNat) (by omega) (v := .ref rs[i.toNat]) (by rw [List.getElem?_map, g]; rfl)) (h _ g (m.rows _ _ g))
theorem ix_row {K : PySem.W.Frag} {H : Hp} {Q : VK} {r : Addr} {n : Nat} {F : Nat → Option Int} (e : H r = some (.lst ((List.range (n + 1)).map fun j => oI (F j)))) {i : Int} (h0 : 0 ≤ i) (h1 : i ≤ n) (h : Q (oI (F i.toNat)) H) : rIx K (.ref r) (.int i) H Q :=
  o_ixL (lst_of e) (atI_of (j := i.toNat) (by omega) (by rw [List.getElem?_map, List.getElem?_range (by omega)]; rfl)) h
theorem mat_of {H : Hp} {p : Addr} {rs : List Addr} {n : Nat} {B : Nat → Nat → Option Int} (e : H p = some (.lst (rs.map V.ref))) (l : rs.length = n + 1) (h : ∀ (i : Nat) (r : Addr), rs[i]? = some r → H r = some (.lst ((List.range (n + 1)).map fun j => oI (B i j)))) : MatAt H p rs n B := ⟨e, l, h⟩
theorem tab0_bd {n i j : Nat} (hi : i ≤ n) (hj : j ≤ n) : bd (tab0 n) i j = if i = j then some 0 else none := by
  unfold bd
  rw [tab0_cell hi hj]
  by_cases h : i = j
  · rw [if_pos h, if_pos h.symm]
    rfl
  · rw [if_neg h, if_neg (fun e => h e.symm)]
    rfl
theorem tab0_cl (n : Nat) : Cl n (bd (tab0 n)) := ⟨fun i hi => by rw [tab0_bd hi hi, if_pos rfl], fun i k j x y hi hk hj hx hy => by
  rw [tab0_bd hi hk] at hx
  rw [tab0_bd hk hj] at hy
  split at hx
  · split at hy
    · cases hx
      cases hy
      refine ⟨0, ?_, by omega⟩
      rw [tab0_bd hi hj, if_pos (by omega)]
    · cases hy
  · cases hx⟩
theorem tab0_short (n : Nat) : Short (tab0 n) 0 := fun row hr c hc => by
  obtain ⟨u, _, rfl⟩ := List.mem_map.mp hr
  obtain ⟨v, _, e⟩ := List.mem_map.mp hc
  split at e
  · cases e
    exact Nat.le_refl _
  · cases e
theorem tie_cl {M : Tab} {n k : Nat} {d : Df} (h : Sq2 M n) (hc : Cl n (bd M)) (hd : InR n d) (hr : ringOf M d = none) : Cl n (bd (tieM M d k)) := by
  have := hc.relax (u := d.1.toNat) (v := d.2.1.toNat) (c := d.2.2) (by have := hd.2.1; omega) (by have := hd.2.2.2; omega) (ring_none hr)
  exact ⟨fun i hi => by rw [tie_bd h hc hd hi hi]; exact this.diag i hi, fun i k j x y hi hk hj hx hy => by
    rw [tie_bd h hc hd hi hk] at hx
    rw [tie_bd h hc hd hk hj] at hy
    rw [tie_bd h hc hd hi hj]
    exact this.tri i k j x y hi hk hj hx hy⟩
def spJoinM : Sp := fun vs H Q _ => ∃ (a : Addr) (d : V) (rs : List Addr) (n : Nat) (B : Nat → Nat → Option Int) (df : Df), vs = [.ref a, d] ∧ MatAt H a rs n B ∧ Tp H d (dfD df) ∧ InR n df ∧ n ≤ 1000 ∧
  ∀ p H' rs', Same H H' → H p = none → (∀ r ∈ rs', H r = none) → MatAt H' p rs' n (fun i j => relax (B i j) (B i df.1.toNat) df.2.2 (B df.2.1.toNat j)) → Q (.ref p) H'
end
end WT
/-! WP: what the chains in a table of bounds mean. -/
namespace WP
open PySem PySem.Spec PyProof.Rows L2 Wy WN WQ WS WC WT
theorem room65 {k : Nat} {A : Around} (r : Room k A) : A.units + 65 < cLine := by
  have := r.un
  omega
/-- the nodes that a chain passes, from its start on -/
def nodes (u : Int) (es : List Df) : List Int := u :: es.map (·.2.1)
theorem path_at : ∀ {es : List Df} {u z s w : Int}, Path es u z s → w ∈ nodes u es → ∃ a b s1 s2, es = a ++ b ∧ Path a u w s1 ∧ Path b w z s2 ∧ s = s1 + s2
  | es, u, z, s, w, p, h => by
    induction p with
    | nil =>
      simp only [nodes, List.map_nil, List.mem_singleton] at h
      subst h
      exact ⟨[], [], 0, 0, rfl, .nil, .nil, rfl⟩
    | cons p ih =>
      rename_i r u v z c s
      simp only [nodes, List.map_cons, List.mem_cons] at h
      rcases h with rfl | h
      · exact ⟨[], _, 0, _, rfl, .nil, .cons p, (Int.zero_add _).symm⟩
      · have : w ∈ nodes v r := by
          unfold nodes
          rcases h with rfl | h
          · exact List.mem_cons_self
          · exact List.mem_cons_of_mem _ h
        obtain ⟨a, b, s1, s2, e, h1, h2, h3⟩ := ih this
        refine ⟨(u, v, c) :: a, b, c + s1, s2, by rw [e]; rfl, .cons h1, h2, by omega⟩
/-- a table and the differences that it was made of -/
structure Mean (n : Nat) (ds : List Df) (M : Tab) : Prop where
  sq : Sq2 M n
  cl : Cl n (bd M)
  inr : ∀ d ∈ ds, InR n d
  low : ∀ d ∈ ds, ∃ z, bd M d.1.toNat d.2.1.toNat = some z ∧ z ≤ d.2.2
  told : ∀ i j p, i ≤ n → j ≤ n → cell M i j = some p → (∀ k ∈ p.2, 0 ≤ k ∧ k < ds.length) ∧ Path (p.2.map (dsAt ds)) i j p.1 ∧ (nodes i (p.2.map (dsAt ds))).Nodup
theorem Mean.path {n : Nat} {ds : List Df} {M : Tab} (h : Mean n ds M) : ∀ {es : List Df} {u z s : Int}, Path es u z s → (∀ d ∈ es, d ∈ ds) → 0 ≤ u → u ≤ n → 0 ≤ z ∧ z ≤ n ∧ ∃ b, bd M u.toNat z.toNat = some b ∧ b ≤ s
  | _, u, _, _, .nil, _, h0, h1 => ⟨h0, h1, 0, h.cl.diag _ (by omega), Int.le_refl _⟩
  | _, u, z, _, .cons (v := v) (c := c) (s := s) (r := r) p, hm, h0, h1 => by
    have hd := hm (u, v, c) List.mem_cons_self
    obtain ⟨_, _, v0, v1⟩ := h.inr _ hd
    obtain ⟨x, ex, lx⟩ := h.low _ hd
    obtain ⟨z0, z1, y, ey, ly⟩ := h.path p (fun d hd => hm d (List.mem_cons_of_mem _ hd)) v0 v1
    have v0 : 0 ≤ v := v0
    have v1 : v ≤ n := v1
    have lx : x ≤ c := lx
    obtain ⟨b, eb, lb⟩ := h.cl.tri u.toNat v.toNat z.toNat x y (by omega) (by omega) (by omega) ex ey
    exact ⟨z0, z1, b, eb, by omega⟩
theorem dsAt_mem {ds : List Df} {k : Int} (h0 : 0 ≤ k) (h1 : k < ds.length) : dsAt ds k ∈ ds := by
  unfold dsAt
  rw [List.getD_eq_getElem?_getD, List.getElem?_eq_getElem (by omega)]
  exact List.getElem_mem _
theorem dsAt_app {ds es : List Df} {k : Int} (h0 : 0 ≤ k) (h1 : k < ds.length) : dsAt (ds ++ es) k = dsAt ds k := by
  unfold dsAt
  rw [List.getD_eq_getElem?_getD, List.getD_eq_getElem?_getD, List.getElem?_append_left (by omega)]
theorem map_app {ds es : List Df} {ns : List Int} (h : ∀ k ∈ ns, 0 ≤ k ∧ k < ds.length) : ns.map (dsAt (ds ++ es)) = ns.map (dsAt ds) := List.map_congr_left fun k hk => dsAt_app (h k hk).1 (h k hk).2
theorem Mean.start (n : Nat) : Mean n [] (tab0 n) := by
  refine ⟨tab0_sq n, tab0_cl n, fun _ h => (by cases h), fun _ h => (by cases h), fun i j p hi hj e => ?_⟩
  rw [tab0_cell hi hj] at e
  split at e
  · rename_i q
    cases e
    subst q
    exact ⟨fun _ h => (by cases h), Path.nil, by simp [nodes]⟩
  · cases e
/-- the chain that a tie brings passes each node once -/
theorem Mean.join {n : Nat} {ds : List Df} {M : Tab} (h : Mean n ds M) {d : Df} (hd : InR n d) (hr : ringOf M d = none) {i j : Nat} (hi : i ≤ n) (hj : j ≤ n) {p q : Int × List Int} (hp : cell M i d.1.toNat = some p) (hq : cell M d.2.1.toNat j = some q)
    (hn : ∀ o, cell M i j = some o → p.1 + d.2.2 + q.1 < o.1) :
    (∀ k ∈ p.2 ++ [(ds.length : Int)] ++ q.2, 0 ≤ k ∧ k < (ds ++ [d]).length) ∧ Path ((p.2 ++ [(ds.length : Int)] ++ q.2).map (dsAt (ds ++ [d]))) i j (p.1 + d.2.2 + q.1) ∧ (nodes i ((p.2 ++ [(ds.length : Int)] ++ q.2).map (dsAt (ds ++ [d])))).Nodup := by
  obtain ⟨h0, h1, h2, h3⟩ := hd
  obtain ⟨p1, p2, p3⟩ := h.told _ _ _ hi (by omega) hp
  obtain ⟨q1, q2, q3⟩ := h.told _ _ _ (by omega) hj hq
  rw [Int.toNat_of_nonneg h0] at p2
  rw [Int.toNat_of_nonneg h2] at q2 q3
  have last : dsAt (ds ++ [d]) (ds.length : Int) = d := by
    unfold dsAt
    rw [List.getD_eq_getElem?_getD, Int.toNat_natCast, List.getElem?_append_right (Nat.le_refl _), Nat.sub_self]
    rfl
  have e : (p.2 ++ [(ds.length : Int)] ++ q.2).map (dsAt (ds ++ [d])) = p.2.map (dsAt ds) ++ [d] ++ q.2.map (dsAt ds) := by
    rw [List.map_append, List.map_append, map_app p1, map_app q1, List.map_singleton, last]
  rw [e]
  have one : Path [d] d.1 d.2.1 d.2.2 := Path.one
  refine ⟨fun k hk => ?_, (p2.app one).app q2, ?_⟩
  · rw [List.length_append, List.length_singleton]
    simp only [List.mem_append, List.mem_singleton] at hk
    rcases hk with (hk | rfl) | hk
    · have := p1 k hk
      omega
    · omega
    · have := q1 k hk
      omega
  · have en : nodes i (p.2.map (dsAt ds) ++ [d] ++ q.2.map (dsAt ds)) = nodes i (p.2.map (dsAt ds)) ++ nodes d.2.1 (q.2.map (dsAt ds)) := by
      simp [nodes]
    rw [en, List.nodup_append]
    refine ⟨p3, q3, fun w hw v hv e => ?_⟩
    subst e
    obtain ⟨a1, b1, s1, s2, ea, pa, pb, es⟩ := path_at p2 hw
    obtain ⟨a2, b2, t1, t2, eb, qa, qb, et⟩ := path_at q2 hv
    have ma : ∀ x ∈ a1 ++ b1, x ∈ ds := fun x hx => by
      rw [← ea] at hx
      obtain ⟨k, hk, rfl⟩ := List.mem_map.mp hx
      exact dsAt_mem (p1 k hk).1 (p1 k hk).2
    have mb : ∀ x ∈ a2 ++ b2, x ∈ ds := fun x hx => by
      rw [← eb] at hx
      obtain ⟨k, hk, rfl⟩ := List.mem_map.mp hx
      exact dsAt_mem (q1 k hk).1 (q1 k hk).2
    obtain ⟨_, _, o, eo, lo⟩ := h.path (pa.app qb) (fun x hx => by
      rcases List.mem_append.mp hx with hx | hx
      · exact ma x (List.mem_append_left _ hx)
      · exact mb x (List.mem_append_right _ hx)) (by omega) (by omega)
    obtain ⟨_, _, r, er, lr⟩ := h.path (qa.app pb) (fun x hx => by
      rcases List.mem_append.mp hx with hx | hx
      · exact mb x (List.mem_append_left _ hx)
      · exact ma x (List.mem_append_right _ hx)) h2 h3
    have hring := ring_none hr r er
    rw [Int.toNat_natCast, Int.toNat_natCast] at eo
    obtain ⟨oc, ec, e1⟩ := Option.map_eq_some_iff.mp eo
    have := hn oc ec
    omega
/-- a cell of the table behind a tie: the old one, or the chain through the new difference -/
theorem tie_cell {M : Tab} {n k i j : Nat} {d : Df} {p : Int × List Int} (h : Sq2 M n) (hd : InR n d) (hi : i ≤ n) (hj : j ≤ n) (e : cell (tieM M d k) i j = some p) :
    cell M i j = some p ∨ ∃ a b, cell M i d.1.toNat = some a ∧ cell M d.2.1.toNat j = some b ∧ p = (a.1 + d.2.2 + b.1, a.2 ++ [(k : Int)] ++ b.2) ∧ ∀ o, cell M i j = some o → a.1 + d.2.2 + b.1 < o.1 := by
  obtain ⟨h0, h1, h2, h3⟩ := hd
  have key : cell (bring M d.1.toNat d.2.1.toNat (d.2.2, [(k : Int)])) i j = some p → cell M i j = some p ∨ ∃ a b, cell M i d.1.toNat = some a ∧ cell M d.2.1.toNat j = some b ∧ p = (a.1 + d.2.2 + b.1, a.2 ++ [(k : Int)] ++ b.2) ∧ ∀ o, cell M i j = some o → a.1 + d.2.2 + b.1 < o.1 := by
    intro e
    rw [bring_cell h (by omega) (by omega) hi hj] at e
    cases ea : cell M i d.1.toNat with
    | none =>
      rw [ea] at e
      exact .inl e
    | some a =>
      rw [ea] at e
      have e : shorter (cell M i j) (joinC a (d.2.2, [(k : Int)])) (cell M d.2.1.toNat j) = some p := e
      cases eb : cell M d.2.1.toNat j with
      | none =>
        rw [eb] at e
        exact .inl e
      | some b =>
        rw [eb] at e
        cases eo : cell M i j with
        | none =>
          rw [eo] at e
          exact .inr ⟨a, b, rfl, rfl, (Option.some.inj e).symm, fun o h => by cases h⟩
        | some o =>
          rw [eo, shorter_some] at e
          split at e
          · exact .inl e
          · rename_i q
            refine .inr ⟨a, b, rfl, rfl, (Option.some.inj e).symm, fun o' h => ?_⟩
            cases h
            simp only [joinC] at q
            omega
  unfold tieM at e
  cases eg : cell M d.1.toNat d.2.1.toNat with
  | none =>
    rw [eg] at e
    exact key e
  | some g =>
    rw [eg] at e
    have e : cell (if d.2.2 < g.1 then bring M d.1.toNat d.2.1.toNat (d.2.2, [(k : Int)]) else M) i j = some p := e
    split at e
    · exact key e
    · exact .inl e
/-- a tie without a ring keeps the meaning -/
theorem Mean.tie {n : Nat} {ds : List Df} {M : Tab} (h : Mean n ds M) {d : Df} (hd : InR n d) (hr : ringOf M d = none) : Mean n (ds ++ [d]) (tieM M d ds.length) := by
  refine ⟨tie_sq h.sq hd, tie_cl h.sq h.cl hd hr, fun x hx => ?_, fun x hx => ?_, fun i j p hi hj e => ?_⟩
  · rcases List.mem_append.mp hx with hx | hx
    · exact h.inr x hx
    · rw [List.mem_singleton.mp hx]
      exact hd
  · obtain ⟨h0, h1, h2, h3⟩ := hd
    rcases List.mem_append.mp hx with hx | hx
    · obtain ⟨x0, x1, x2, x3⟩ := h.inr x hx
      obtain ⟨z, ez, lz⟩ := h.low x hx
      rw [tie_bd h.sq h.cl ⟨h0, h1, h2, h3⟩ (by omega) (by omega), ez]
      obtain ⟨z', e', l'⟩ := relax_old (x := bd M x.1.toNat d.1.toNat) (y := bd M d.2.1.toNat x.2.1.toNat) (c := d.2.2) (o := z)
      exact ⟨z', e', by omega⟩
    · obtain rfl := List.mem_singleton.mp hx
      rw [tie_bd h.sq h.cl ⟨h0, h1, h2, h3⟩ (by omega) (by omega), h.cl.diag _ (by omega), h.cl.diag _ (by omega)]
      obtain ⟨z', e', l'⟩ := relax_new (b := bd M x.1.toNat x.2.1.toNat) (c := x.2.2) (p := 0) (q := 0)
      exact ⟨z', e', by omega⟩
  · rcases tie_cell h.sq hd hi hj e with e | ⟨a, b, ea, eb, rfl, hn⟩
    · obtain ⟨t1, t2, t3⟩ := h.told i j p hi hj e
      rw [map_app t1]
      refine ⟨fun k hk => ?_, t2, t3⟩
      have := t1 k hk
      rw [List.length_append]
      omega
    · exact h.join hd hr hi hj ea eb hn
/-- a chain that passes each node once is short -/
theorem Mean.short {n : Nat} {ds : List Df} {M : Tab} (h : Mean n ds M) : Short M n := by
  intro row hr c hc
  obtain ⟨i, hi, rfl⟩ := List.getElem_of_mem hr
  obtain ⟨j, hj, ej⟩ := List.getElem_of_mem hc
  have li := h.sq.2 _ (List.getElem_mem hi)
  have hi' : i ≤ n := by
    have := h.sq.1
    omega
  have hj' : j ≤ n := by omega
  have e : cell M i j = some c := by
    unfold cell
    rw [List.getD_eq_getElem?_getD (l := M), List.getElem?_eq_getElem hi]
    show (M[i]).getD j none = _
    rw [List.getD_eq_getElem?_getD, List.getElem?_eq_getElem hj, ej]
    rfl
  obtain ⟨t1, t2, t3⟩ := h.told i j c hi' hj' e
  have sub : ∀ x ∈ nodes i (c.2.map (dsAt ds)), x ∈ (List.range (n + 1)).map fun (k : Nat) => (k : Int) := fun x hx => by
    have : 0 ≤ x ∧ x ≤ n := by
      rcases List.mem_cons.mp hx with rfl | hx
      · omega
      · obtain ⟨d, hd, rfl⟩ := List.mem_map.mp hx
        obtain ⟨k, hk, rfl⟩ := List.mem_map.mp hd
        obtain ⟨_, _, r3, r4⟩ := h.inr _ (dsAt_mem (t1 k hk).1 (t1 k hk).2)
        exact ⟨r3, r4⟩
    exact List.mem_map.mpr ⟨x.toNat, List.mem_range.mpr (by omega), by omega⟩
  have le := List.Nodup.length_le_of_subset t3 sub
  simp only [nodes, List.length_cons, List.length_map, List.length_range] at le
  omega
/-- the ring that a tie closes is one -/
theorem Mean.ring {n : Nat} {ds : List Df} {M : Tab} (h : Mean n ds M) {d : Df} (hd : InR n d) {r : List Int} (hr : ringOf M d = some r) : ∃ s, csum (ds ++ [d]) ((ds.length : Int) :: r) = some (d.1, d.1, s) ∧ s < 0 := by
  obtain ⟨h0, h1, h2, h3⟩ := hd
  unfold ringOf at hr
  cases e : cell M d.2.1.toNat d.1.toNat with
  | none =>
    rw [e] at hr
    cases hr
  | some b =>
    rw [e] at hr
    have hr : (if d.2.2 + b.1 < 0 then some b.2 else none) = some r := hr
    split at hr
    · cases hr
      obtain ⟨t1, t2, t3⟩ := h.told _ _ b (by omega) (by omega) e
      rw [Int.toNat_of_nonneg h0, Int.toNat_of_nonneg h2] at t2
      have last : dsAt (ds ++ [d]) (ds.length : Int) = d := by
        unfold dsAt
        rw [List.getD_eq_getElem?_getD, Int.toNat_natCast, List.getElem?_append_right (Nat.le_refl _), Nat.sub_self]
        rfl
      refine ⟨d.2.2 + b.1, csum_path (fun k hk => ?_) ?_ (by simp), by assumption⟩
      · rw [List.length_append, List.length_singleton]
        rcases List.mem_cons.mp hk with rfl | hk
        · omega
        · have := t1 k hk
          omega
      · rw [List.map_cons, last, map_app t1]
        exact Path.cons t2
    · cases hr
end WP
namespace WD
open PySem PySem.Spec PyProof.Rows L2 Wy
theorem uu {a c : Nat} (h : a + 64 < c) : a + 1 < c := by omega
/-! ### dicts of texts -/
def rLnD : List V → Hp → VK → Prop := fun xs H Q => ∃ a kvs, xs = [.ref a] ∧ H a = some (.dK kvs) ∧ Q (.int (kvs.length : Nat)) H
theorem call_lenD {X : Cx} : CallR X (.builtin "len") rLnD := by
  intro pins s σ H xs us Q I r h
  obtain ⟨p, kvs, rfl, hk, q⟩ := h
  obtain ⟨u, eu, rx⟩ := vals1 r
  subst eu
  obtain rfl : u = Value.ref p := rx
  exact d_len I (.inl hk) fun t s' I' => ⟨.int (kvs.length : Nat), H, I', ⟨t, rfl⟩, q⟩
section
variable {K : PySem.W.Frag} {σ : L2.St} {H : Hp} {Q : VK} {td ty tv : TE} {D : Ends}
def KD (x y : V) (H : Hp) (Q : VK) : Prop := ∃ a v, x = .ref a ∧ DGet H a y (some v) ∧ Q v H
def KP (v x y : V) (σ : L2.St) (H : Hp) (N : L2.St → Hp → Prop) : Prop := ∃ a H4, x = .ref a ∧ DPut H a y v H4 ∧ N σ H4
theorem e_dnew (h : ∀ p H2, H p = none → Same H H2 → H2 p = some (.dK []) → Q (.ref p) H2) : tDNewK σ H Q := new_same h
theorem e_dget (h : td σ H fun x H1 => ty σ H1 fun y H2 => KD x y H2 Q) : tDGet td ty σ H Q := h
theorem k_d {a : Addr} {kvs : List (Key × V)} {n : Str} {v : V} (e : H a = some (.dK kvs)) (g : valV kvs (.inr n) = some v) (h : Q v H) : KD (.ref a) (.str n) H Q :=
  ⟨a, v, rfl, g ▸ DGet.k (k := .inr n) e, h⟩
theorem s_dput (h : tv σ H fun v H1 => td σ H1 fun x H2 => ty σ H2 fun y H3 => KP v x y σ H3 D.nx) : sDPut td ty tv D σ H := h
theorem k_p {a : Addr} {kvs : List (Key × V)} {n : Str} {v : V} {N : L2.St → Hp → Prop} (e : H a = some (.dK kvs)) (hl : kvs.length < sizeLine) (h : ∀ H2, Chg a H H2 → H2 a = some (.dK (putK kvs (.inr n) v)) → N σ H2) :
    KP v (.ref a) (.str n) σ H N := ⟨a, _, rfl, DPut.k (k := .inr n) e hl, h _ chg_upd upd_same⟩
theorem b_lenD {a : Addr} {kvs : List (Key × V)} (e : H a = some (.dK kvs)) (h : Q (.int (kvs.length : Nat)) H) : rLnD [.ref a] H Q := ⟨a, kvs, rfl, e, h⟩
theorem b_lstD {a : Addr} {kvs : List (Key × V)} (e : H a = some (.dK kvs)) (h : ∀ p H2, H p = none → Same H H2 → H2 p = some (.lst (kvs.map fun kv => kV kv.1)) → Q (.ref p) H2) : rListD [.ref a] H Q := ⟨a, kvs, rfl, e, new_same h⟩
def rTup (K : PySem.W.Frag) : List V → Hp → VK → Prop := fun xs H Q => ∃ p ys, xs = [.ref p] ∧ ((SqL K H p ys ∧ ∀ l, H l = none → Q (.ref l) (upd H l (.tup ys))) ∨ (SqT K H p ys ∧ Q (.ref p) H))
theorem call_tup2 {X : Cx} : CallR X (.type "tuple") (rTup X.K) := call_tuple_of
theorem b_tup {a : Addr} {xs : List V} (hs : SqL K H a xs) (h : ∀ p H2, H p = none → Same H H2 → H2 p = some (.tup xs) → Q (.ref p) H2) : rTup K [.ref a] H Q := ⟨a, xs, rfl, .inl ⟨hs, new_same h⟩⟩
theorem m_idx {a : Addr} {ys : List V} {y : V} {j : Nat} {z : V} (hs : SqL K H a ys) (f1 : flatV y = true) (f2 : ys.all flatV = true) (g : ys[j]? = some z) (e : eqV z y = true)
    (no : ∀ (m : Nat) (z' : V), m < j → ys[m]? = some z' → eqV z' y = false) (h : Q (.int (j : Nat)) H) : rIndex K (.ref a) [y] H Q := ⟨a, ys, y, j, z, rfl, rfl, hs, f1, f2, g, e, no, h⟩
end
/-- the names with their values, as far as there are values -/
def kv (ns : List Str) (vs : List V) : List (Key × V) := (ns.zip vs).map fun p => (.inr p.1, p.2)
theorem kv_len {ns : List Str} {vs : List V} (h : vs.length ≤ ns.length) : (kv ns vs).length = vs.length := by
  unfold kv
  rw [List.length_map, List.length_zip]
  omega
theorem kv_get : ∀ {ns : List Str} {vs : List V} {j : Nat} {n : Str} {v : V}, ns.Nodup → ns[j]? = some n → vs[j]? = some v → valV (kv ns vs) (.inr n) = some v
  | [], _, _, _, _, _, h, _ => by cases h
  | _ :: _, [], _, _, _, _, _, h => by cases h
  | m :: ns, u :: vs, 0, n, v, _, h1, h2 => by
    cases h1
    cases h2
    exact valV_pos (p := (Sum.inr m, u)) rfl
  | m :: ns, u :: vs, j + 1, n, v, hd, h1, h2 => by
    have h1 : ns[j]? = some n := h1
    have h2 : vs[j]? = some v := h2
    have hd := List.nodup_cons.mp hd
    have ne : ¬ (Sum.inr m : Key) = Sum.inr n := fun e => hd.1 (by
      have e2 : m = n := Sum.inr.inj e
      rw [e2]
      exact List.mem_of_getElem? h1)
    exact (valV_neg (p := (Sum.inr m, u)) ne).trans (kv_get hd.2 h1 h2)
theorem zip_fst : ∀ (ns : List Str) (vs : List V), (ns.zip vs).map Prod.fst = ns.take vs.length
  | [], _ => by simp
  | _ :: _, [] => rfl
  | n :: ns, _ :: vs => congrArg (n :: ·) (zip_fst ns vs)
theorem zip_cut : ∀ (ns : List Str) (vs : List V), ns.zip vs = (ns.take vs.length).zip vs
  | [], _ => by simp
  | _ :: _, [] => rfl
  | n :: ns, v :: vs => congrArg ((n, v) :: ·) (zip_cut ns vs)
theorem kv_any {ns : List Str} {vs : List V} {n : Str} : ((kv ns vs).any fun p => decide (p.1 = (.inr n : Key))) = true ↔ n ∈ (ns.take vs.length) := by
  unfold kv
  rw [List.any_map, List.any_eq_true]
  constructor
  · rintro ⟨⟨a, b⟩, hm, h⟩
    have h : (Sum.inr a : Key) = Sum.inr n := of_decide_eq_true h
    have e : a = n := Sum.inr.inj h
    subst e
    have : a ∈ (ns.zip vs).map Prod.fst := List.mem_map.mpr ⟨_, hm, rfl⟩
    rw [zip_fst] at this
    exact this
  · intro h
    have : n ∈ (ns.zip vs).map Prod.fst := by
      rw [zip_fst]
      exact h
    obtain ⟨⟨a, b⟩, hm, e⟩ := List.mem_map.mp this
    exact ⟨(a, b), hm, decide_eq_true (by rw [← e])⟩
theorem kv_new {ns : List Str} {vs : List V} {n : Str} {v : V} (hd : ns.Nodup) (h : ns[vs.length]? = some n) : putK (kv ns vs) (.inr n) v = kv ns (vs ++ [v]) := by
  have no : n ∉ ns.take vs.length := by
    intro hm
    obtain ⟨i, hi, e⟩ := List.getElem_of_mem hm
    obtain ⟨hl, e2⟩ := List.getElem?_eq_some_iff.mp h
    rw [List.length_take] at hi
    rw [List.getElem_take] at e
    have := (List.getElem_inj hd).mp (e.trans e2.symm)
    omega
  unfold putK
  rw [if_neg (fun e => no (kv_any.mp e))]
  unfold kv
  obtain ⟨hl, e2⟩ := List.getElem?_eq_some_iff.mp h
  have e3 : ns = ns.take vs.length ++ n :: ns.drop (vs.length + 1) := by
    rw [← e2, List.getElem_cons_drop, List.take_append_drop]
  have e4 : ns.zip vs = (ns.take vs.length).zip vs := zip_cut ns vs
  have l1 : (ns.take vs.length).length = vs.length := by rw [List.length_take]; omega
  have e5 : ns.zip (vs ++ [v]) = (ns.take vs.length).zip vs ++ [(n, v)] := by
    conv => lhs; rw [e3]
    rw [List.zip_append l1]
    simp
  rw [e4, e5, List.map_append]
  rfl
theorem kv_set : ∀ {ns : List Str} {vs : List V} {j : Nat} {n : Str} {v : V}, ns.Nodup → ns[j]? = some n → j < vs.length → (kv ns vs).map (fun p => if p.1 = (.inr n : Key) then (p.1, v) else p) = kv ns (vs.set j v)
  | [], _, _, _, _, _, h, _ => by cases h
  | _ :: _, [], _, _, _, _, _, h => absurd h (Nat.not_lt_zero _)
  | m :: ns, u :: vs, 0, n, v, hd, h1, h2 => by
    cases h1
    have hd := List.nodup_cons.mp hd
    show (if (Sum.inr m : Key) = Sum.inr m then _ else _) :: _ = (_ :: _ : List (Key × V))
    rw [if_pos rfl]
    refine congrArg (_ :: ·) ?_
    refine (List.map_congr_left fun p hp => ?_).trans (List.map_id _)
    obtain ⟨⟨a, b⟩, hm, e⟩ := List.mem_map.mp hp
    rw [if_neg ?_]
    · rfl
    · rw [← e]
      intro e2
      exact hd.1 (Sum.inr.inj e2 ▸ (List.of_mem_zip hm).1)
  | m :: ns, u :: vs, j + 1, n, v, hd, h1, h2 => by
    have h1 : ns[j]? = some n := h1
    have hd := List.nodup_cons.mp hd
    have ne : ¬ (Sum.inr m : Key) = Sum.inr n := fun e => hd.1 (by
      have e2 : m = n := Sum.inr.inj e
      rw [e2]
      exact List.mem_of_getElem? h1)
    show (if (Sum.inr m : Key) = Sum.inr n then _ else _) :: _ = (_ :: _ : List (Key × V))
    rw [if_neg ne]
    exact congrArg (_ :: ·) (kv_set hd.2 h1 (Nat.lt_of_succ_lt_succ h2))
theorem kv_put {ns : List Str} {vs : List V} {j : Nat} {n : Str} {v : V} (hd : ns.Nodup) (h : ns[j]? = some n) (hj : j < vs.length) : putK (kv ns vs) (.inr n) v = kv ns (vs.set j v) := by
  obtain ⟨hl, e2⟩ := List.getElem?_eq_some_iff.mp h
  have hm : n ∈ ns.take vs.length := by
    rw [← e2]
    exact List.mem_take_iff_getElem.mpr ⟨j, by omega, rfl⟩
  unfold putK
  rw [if_pos (kv_any.mpr hm)]
  exact kv_set hd h hj
theorem kv_keys {ns : List Str} {vs : List V} (h : vs.length = ns.length) : (kv ns vs).map (fun p => kV p.1) = ns.map V.str := by
  unfold kv
  rw [List.map_map]
  have : ((fun p : Key × V => kV p.1) ∘ fun p : Str × V => ((.inr p.1 : Key), p.2)) = V.str ∘ Prod.fst := rfl
  rw [this, ← List.map_map, List.map_fst_zip (by omega)]
/-! ### the questions and their answers -/
inductive X9 where
  | num (n : Int)
  | var (k : Nat) (p : Int)
  | item (j : Nat) (i : X9) (p : Int)
abbrev nm (ns : List Str) (k : Nat) : Str := ns.getD k ""
def X9.d (ns : List Str) : X9 → PyData
  | .num n => .tuple [.str "num", .int n]
  | .var k p => .tuple [.str "var", .str (nm ns k), .int p]
  | .item j i p => .tuple [.str "item", .str (nm ns (4 + j)), i.d ns, .int p]
def X9.plain : X9 → Prop
  | .num _ => True
  | .var k _ => k < 4
  | .item _ _ _ => False
def X9.good : X9 → Prop
  | .num _ => True
  | .var k _ => k < 4
  | .item j i _ => j < 2 ∧ i.plain
theorem X9.plain.good {e : X9} (h : e.plain) : e.good := by
  cases e with
  | num _ => exact True.intro
  | var _ _ => exact h
  | item _ _ _ => exact h.elim
def X9.dep : X9 → Nat
  | .item _ _ _ => 1
  | _ => 0
theorem X9.plain.dep {e : X9} (h : e.plain) : e.dep = 0 := by
  cases e with
  | num _ => rfl
  | var _ _ => rfl
  | item _ _ _ => exact h.elim
theorem X9.dep_le (e : X9) : e.dep < 2 := by
  cases e <;> simp [X9.dep]
def X9.ev (is : List Int) (ls : List (List Int)) : X9 → Option Int
  | .num n => some n
  | .var k p => some (is.getD k 0 + p)
  | .item j i p => match i.ev is ls with
    | none => none
    | some a => if 0 ≤ a ∧ a < (ls.getD j []).length then some ((ls.getD j []).getD a.toNat 0 + p) else none
def oI : Option Int → V
  | none => .non
  | some i => .int i
def oB : Option Bool → V
  | none => .non
  | some b => .bl b
theorem X9.plain.ev {e : X9} (h : e.plain) (is : List Int) (ls : List (List Int)) : ∃ i, e.ev is ls = some i := by
  cases e with
  | num n => exact ⟨n, rfl⟩
  | var k p => exact ⟨_, rfl⟩
  | item _ _ _ => exact h.elim
abbrev SG : List Str := ["<", "<=", ">", ">=", "==", "!="]
def cmpB : Nat → Int → Int → Bool
  | 0, a, b => decide (a < b)
  | 1, a, b => decide (a ≤ b)
  | 2, a, b => decide (a > b)
  | 3, a, b => decide (a ≥ b)
  | 4, a, b => decide (a = b)
  | _, a, b => !decide (a = b)
inductive Cn where
  | cmp (k : Nat) (l r : X9)
  | no (c : Cn)
  | jn (o : Bool) (cs : List Cn)
abbrev jw (o : Bool) : Str := if o then "or" else "and"
mutual
def Cn.d (ns : List Str) : Cn → PyData
  | .cmp k l r => .tuple [.str "cmp", .str (SG.getD k ""), l.d ns, r.d ns]
  | .no c => .tuple [.str "not", c.d ns]
  | .jn o cs => .tuple [.str (jw o), .tuple (Cn.ds ns cs)]
def Cn.ds (ns : List Str) : List Cn → List PyData
  | [] => []
  | c :: cs => c.d ns :: Cn.ds ns cs
end
mutual
def Cn.ok : Nat → Cn → Prop
  | _, .cmp k l r => k < 6 ∧ l.good ∧ r.good
  | 0, .no _ => False
  | n + 1, .no c => c.ok n
  | 0, .jn _ _ => False
  | n + 1, .jn _ cs => Cn.oks n cs
def Cn.oks : Nat → List Cn → Prop
  | _, [] => True
  | n, c :: cs => c.ok n ∧ Cn.oks n cs
end
def cmpO (k : Nat) : Option Int → Option Int → Option Bool
  | some a, some b => some (cmpB k a b)
  | _, _ => none
mutual
def Cn.ev (is : List Int) (ls : List (List Int)) : Cn → Option Bool
  | .cmp k l r => cmpO k (l.ev is ls) (r.ev is ls)
  | .no c => (c.ev is ls).map fun b => !b
  | .jn o cs => Cn.evs is ls o cs
def Cn.evs (is : List Int) (ls : List (List Int)) (o : Bool) : List Cn → Option Bool
  | [] => some (!o)
  | c :: cs => match c.ev is ls with
    | none => none
    | some b => if b = o then some b else Cn.evs is ls o cs
end
theorem Cn.ds_get {ns : List Str} : ∀ {cs : List Cn} {i : Nat} {c : Cn}, cs[i]? = some c → (Cn.ds ns cs)[i]? = some (c.d ns)
  | [], _, _, h => by cases h
  | c :: cs, 0, _, h => by
    cases h
    rfl
  | c :: cs, i + 1, _, h => by
    have h : cs[i]? = some _ := h
    exact Cn.ds_get (cs := cs) (i := i) h
theorem Cn.ds_len {ns : List Str} : ∀ {cs : List Cn}, (Cn.ds ns cs).length = cs.length
  | [] => rfl
  | c :: cs => congrArg (· + 1) Cn.ds_len
theorem Cn.ds_snoc {ns : List Str} {c : Cn} : ∀ {cs : List Cn}, Cn.ds ns (cs ++ [c]) = Cn.ds ns cs ++ [c.d ns]
  | [] => rfl
  | _ :: _ => congrArg (_ :: ·) Cn.ds_snoc
theorem Cn.oks_get {n : Nat} : ∀ {cs : List Cn} {i : Nat} {c : Cn}, Cn.oks n cs → cs[i]? = some c → c.ok n
  | [], _, _, _, h => by cases h
  | c :: cs, 0, _, g, h => by
    cases h
    exact g.1
  | c :: cs, i + 1, _, g, h => by
    have h : cs[i]? = some _ := h
    exact Cn.oks_get g.2 h
theorem Cn.oks_snoc {n : Nat} {c : Cn} : ∀ {cs : List Cn}, Cn.oks n cs → c.ok n → Cn.oks n (cs ++ [c])
  | [], _, h => ⟨h, True.intro⟩
  | _ :: _, g, h => ⟨g.1, Cn.oks_snoc g.2 h⟩
theorem Cn.evs_drop {is : List Int} {ls : List (List Int)} {o : Bool} {cs : List Cn} {i : Nat} {c : Cn} (h : cs[i]? = some c) :
    Cn.evs is ls o (cs.drop i) = match c.ev is ls with | none => none | some b => if b = o then some b else Cn.evs is ls o (cs.drop (i + 1)) := by
  obtain ⟨hl, e⟩ := List.getElem?_eq_some_iff.mp h
  rw [List.drop_eq_getElem_cons hl, e]
  rfl
/-! ### the parts of the data -/
theorem tp4 {H : Hp} {v : V} {d1 d2 d3 d4 : PyData} (h : Tp H v (.tuple [d1, d2, d3, d4])) : ∃ a v1 v2 v3 v4, v = .ref a ∧ H a = some (.tup [v1, v2, v3, v4]) ∧ Tp H v1 d1 ∧ Tp H v2 d2 ∧ Tp H v3 d3 ∧ Tp H v4 d4 := by
  cases h with
  | tup e r =>
    cases r with | cons h1 r => cases r with | cons h2 r => cases r with | cons h3 r => cases r with | cons h4 r =>
      cases r
      exact ⟨_, _, _, _, _, rfl, e, h1, h2, h3, h4⟩
theorem tp3 {H : Hp} {v : V} {d1 d2 d3 : PyData} (h : Tp H v (.tuple [d1, d2, d3])) : ∃ a v1 v2 v3, v = .ref a ∧ H a = some (.tup [v1, v2, v3]) ∧ Tp H v1 d1 ∧ Tp H v2 d2 ∧ Tp H v3 d3 := by
  cases h with
  | tup e r =>
    cases r with | cons h1 r => cases r with | cons h2 r => cases r with | cons h3 r =>
      cases r
      exact ⟨_, _, _, _, rfl, e, h1, h2, h3⟩
theorem tp2 {H : Hp} {v : V} {d1 d2 : PyData} (h : Tp H v (.tuple [d1, d2])) : ∃ a v1 v2, v = .ref a ∧ H a = some (.tup [v1, v2]) ∧ Tp H v1 d1 ∧ Tp H v2 d2 := by
  cases h with
  | tup e r =>
    cases r with | cons h1 r => cases r with | cons h2 r =>
      cases r
      exact ⟨_, _, _, rfl, e, h1, h2⟩
theorem tpL {H : Hp} {v : V} {ds : List PyData} (h : Tp H v (.tuple ds)) : ∃ a vs, v = .ref a ∧ H a = some (.tup vs) ∧ TpAll H vs ds := by
  cases h with
  | tup e r => exact ⟨_, _, rfl, e, r⟩
theorem tp_str {H : Hp} {v : V} {x : Str} (h : Tp H v (.str x)) : v = .str x := by
  cases h
  rfl
theorem tp_int {H : Hp} {v : V} {x : Int} (h : Tp H v (.int x)) : v = .int x := by
  cases h
  rfl
theorem tpSnoc {H : Hp} {v : V} {d : PyData} : ∀ {vs : List V} {ds : List PyData}, TpAll H vs ds → Tp H v d → TpAll H (vs ++ [v]) (ds ++ [d])
  | _, _, .nil, h => .cons h .nil
  | _, _, .cons h1 h2, h => .cons h1 (tpSnoc h2 h)
/-! ### the variables -/
def CellAt (H : Hp) (is : List Int) (ls : List (List Int)) (j : Nat) (v : V) : Prop :=
  (∃ x, is[j]? = some x ∧ v = .int x) ∨ ∃ a xs, 4 ≤ j ∧ ls[j - 4]? = some xs ∧ v = .ref a ∧ H a = some (.lst (xs.map V.int))
theorem CellAt.same {H H' : Hp} {is : List Int} {ls : List (List Int)} {j : Nat} {v : V} (s : Same H H') (c : CellAt H is ls j v) : CellAt H' is ls j v := by
  rcases c with c | ⟨a, xs, h1, h2, h3, h4⟩
  · exact .inl c
  · exact .inr ⟨a, xs, h1, h2, h3, s _ _ h4⟩
def EnvAt (H : Hp) (p : Addr) (ns : List Str) (is : List Int) (ls : List (List Int)) : Prop :=
  is.length = 4 ∧ ls.length = 2 ∧ ns.length = 6 ∧ ns.Nodup ∧ ∃ vs : List V, vs.length = 6 ∧ H p = some (.dK (kv ns vs)) ∧ ∀ j v, vs[j]? = some v → CellAt H is ls j v
theorem EnvAt.same {H H' : Hp} {p : Addr} {ns : List Str} {is : List Int} {ls : List (List Int)} (s : Same H H') (e : EnvAt H p ns is ls) : EnvAt H' p ns is ls := by
  obtain ⟨h1, h2, h3, h4, vs, h5, h6, h7⟩ := e
  exact ⟨h1, h2, h3, h4, vs, h5, s _ _ h6, fun j v g => (h7 j v g).same s⟩
theorem nm_at {ns : List Str} {k : Nat} (h : k < ns.length) : ns[k]? = some (nm ns k) := by
  unfold nm
  rw [List.getD_eq_getElem?_getD, List.getElem?_eq_getElem h]
  rfl
/-- a number out of the variables -/
theorem EnvAt.int {H : Hp} {p : Addr} {ns : List Str} {is : List Int} {ls : List (List Int)} (e : EnvAt H p ns is ls) {k : Nat} (hk : k < 4) : ∃ kvs, H p = some (.dK kvs) ∧ valV kvs (.inr (nm ns k)) = some (.int (is.getD k 0)) := by
  obtain ⟨h1, h2, h3, h4, vs, h5, h6, h7⟩ := e
  have g : vs[k]? = some vs[k] := List.getElem?_eq_getElem (by omega)
  refine ⟨_, h6, ?_⟩
  have e := kv_get h4 (nm_at (by omega)) g
  rw [e]
  rcases h7 k _ g with ⟨x, c1, c2⟩ | ⟨a, xs, c1, _⟩
  · rw [c2, List.getD_eq_getElem?_getD, c1]
    rfl
  · omega
theorem EnvAt.lst {H : Hp} {p : Addr} {ns : List Str} {is : List Int} {ls : List (List Int)} (e : EnvAt H p ns is ls) {j : Nat} (hj : j < 2) :
    ∃ kvs a, H p = some (.dK kvs) ∧ valV kvs (.inr (nm ns (4 + j))) = some (.ref a) ∧ H a = some (.lst ((ls.getD j []).map V.int)) := by
  obtain ⟨h1, h2, h3, h4, vs, h5, h6, h7⟩ := e
  have g : vs[4 + j]? = some vs[4 + j] := List.getElem?_eq_getElem (by omega)
  have e := kv_get h4 (nm_at (by omega)) g
  rcases h7 _ _ g with ⟨x, c1, c2⟩ | ⟨a, xs, c1, c2, c3, c4⟩
  · have := (List.getElem?_eq_some_iff.mp c1).1
    omega
  · refine ⟨_, a, h6, by rw [e, c3], ?_⟩
    have e2 : ls.getD j [] = xs := by
      rw [List.getD_eq_getElem?_getD]
      rw [show 4 + j - 4 = j by omega] at c2
      rw [c2]
      rfl
    rw [e2]
    exact c4
/-! ### the names -/
abbrev PADS : List Str := ["", "u", "zzzzzzzzzzz", "uz"]
def let9 (k : Nat) : Str := ⟨#[("abcdxy" : Str).cps.toList.getD k 0]⟩
def namesOf (k : Nat) : List Str := (PADS.map fun p => let9 k ++ p) ++ PADS.map fun p => p ++ let9 k
theorem names_apart : ∀ i, i < 6 → ∀ j, j < 6 → i ≠ j → ∀ x ∈ namesOf i, ∀ y ∈ namesOf j, x ≠ y := by decide +kernel
def NamesOk (ns : List Str) : Prop := ∀ i n, ns[i]? = some n → n ∈ namesOf i
theorem names_nodup {ns : List Str} (h : NamesOk ns) (hl : ns.length ≤ 6) : ns.Nodup := by
  rw [List.nodup_iff_pairwise_ne, List.pairwise_iff_getElem]
  intro i j hi hj lt
  exact names_apart i (by omega) j (by omega) (by omega) _ (h i _ (List.getElem?_eq_getElem hi)) _ (h j _ (List.getElem?_eq_getElem hj))
end WD
/-! WXD: setdefault of a dict of tuples, in over tuples of data, str of a text or an int. -/
namespace WXD
open PySem PySem.Spec PyProof.Rows L2 Wy
section
variable {X : Cx} {pins : List (Addr × Obj)} {σ : L2.St} {H : Hp} {s : Shared} {a b : Addr} {u r : Value} {d : V} {k : List Key} {A : Around} {E : Value → Shared → Prop}
theorem d_setdT {kvs : List (List Key × V)} {Q : Value → Shared → Prop} (hu : A.units + 1 < cLine) (I : Inv X pins σ H s) (e : H a = some (.dT kvs)) (eb : H b = some (.tup (k.map kV))) (rd : RelV d r) (hl : kvs.length < sizeLine)
    (h1 : ∀ v, valV kvs k = some v → ∀ (w' : Value) (s' : Shared), Inv X pins σ H s' → RelV v w' → Q w' s') (h2 : valV kvs k = none → ∀ (w' : Value) (s' : Shared), Inv X pins σ (upd H a (.dT (putK kvs k d))) s' → RelV d w' → Q w' s') :
    wpAny (model X.prog X.w) A (call (.builtin "dict.setdefault") [.ref a, .ref b, r]) Q E s := by
  obtain ⟨z, hd, xs, rel, dd⟩ := dt_of I.hok e
  have hz : xs.length ≤ sizeLine := by rw [← Paired.length rel]; exact z
  refine call_setdefault_heap (hsz := hz) (tupleKind_room_in1 hu) (key_of I.hok eb) hd dd (fun p hp => ?_) fun hn h' dd' hs => ?_
  · have q := rel.val k
    rw [hp] at q
    cases q0 : valV kvs k with
    | none => rw [q0] at q; exact (show False from q).elim
    | some v0 => rw [q0] at q; exact h1 v0 q0 _ _ (I.tok _) q
  · have q := rel.val k
    rw [hn] at q
    cases q0 : valV kvs k with
    | some v0 => rw [q0] at q; exact (show False from q).elim
    | none =>
      have hl2 : (putK kvs k d).length ≤ sizeLine := by
        have := length_putK kvs k d
        omega
      obtain ⟨ob, es, ep, hq, g2, g3, g4, _, g5⟩ := dd'
      refine h2 q0 _ _ (d_write I (by rw [e]; exact True.intro) hs ⟨ob, hq⟩ ⟨hl2, hd, _, (rel.put k eb rd).keeps fun c ys ec => ?_, ob, es, ep, hq, g2, g3, g4, g5⟩) rd
      rw [upd_ne (ne_of ec e (fun z => nomatch z))]
      exact ec
end
/-- d.setdefault(y, z), d a dict of tuples -/
def tDSetdT (td ty tx : TE) : TE := fun σ H Q => td σ H fun x H1 => ∃ a kvs0, x = .ref a ∧ H1 a = some (.dT kvs0) ∧ ty σ H1 fun y H2 => tx σ H2 fun z H3 => ∃ (kvs : List (List Key × V)) (k : List Key) (b : Addr), H3 a = some (.dT kvs) ∧ y = .ref b ∧ H3 b = some (.tup (k.map kV)) ∧ kvs.length < sizeLine ∧
  (∀ v, valV kvs k = some v → Q v H3) ∧ (valV kvs k = none → Q z (upd H3 a (.dT (putK kvs k z))))
section
variable {X : Cx} {o e f : Expr} {td ty tx : TE} {apos cpos : Pos}
theorem pe_dsetdT (hu : X.A.units + 1 < cLine) (ho : PE X o td) (he : PE X e ty) (hf : PE X f tx) (m : M2 X o "setdefault" apos e f cpos) : PE X (.Call (.Attribute o "setdefault" apos) [e, f] [] cpos) (tDSetdT td ty tx) := by
  refine ⟨fun pins s σ H Q I h => ?_⟩
  refine wpAny_Call_method m.base m.few m.line PySem.F.plainAttrs_dict PySem.F.slot_dict_setdefault PySem.F.type_dict_setdefault (thn (ho.run pins s σ H _ I h) fun u s1 ⟨x, H1, I1, rx, a, kvs0, ex, d, q1⟩ => ?_)
  subst ex
  obtain rfl : u = Value.ref a := rx
  obtain ⟨t1, t2, _⟩ := isD_at I1 (.inr ⟨kvs0, .inl d⟩)
  refine ⟨t1, t2, ?_⟩
  rw [m.trees]
  refine Calls.callWith_builtin rfl (Calls.evalArgs_plain (Calls.spliced_cons (thn (he.run pins s1 σ H1 _ I1 q1) fun iv s2 ⟨y, H2, I2, ry, q2⟩ =>
    Calls.spliced_cons (thn (hf.run pins s2 σ H2 _ I2 q2) fun fv s3 ⟨z, H3, I3, rz, kvs, k, b, ea, ey, eb, hl, q3, q4⟩ => Calls.spliced_nil ?_))))
  subst ey
  obtain rfl : iv = Value.ref b := ry
  exact d_setdT hu I3 ea eb rz hl (fun v hv w' s4 I4 rw' => ⟨v, _, I4, rw', q3 v hv⟩) fun hn w' s4 I4 rw' => ⟨z, _, I4, rw', q4 hn⟩
end
/-! ### x in t, t a tuple or list of data -/
def rInT (K : PySem.W.Frag) (neg : Bool) : R2 := fun x y H Q => ∃ d ds, Dp K H x d ∧ Dp K H y (.tuple ds) ∧ SeqAt.shaped d = true ∧ SeqAt.shaped (.tuple ds) = true ∧ Q (.bl (if neg then !ds.any fun z => PyData.eqv z d else ds.any fun z => PyData.eqv z d)) H
section
variable {X : Cx}
theorem op_inT (hu : X.A.units + 65 < cLine) : OpR X (compareOp .In) (rInT X.K false) := by
  intro pins s σ H x y v u Q I rx ry h
  obtain ⟨d, ds, hd, he, sd, se, q⟩ := h
  obtain ⟨as, r1⟩ := Dp.reads I d x v hd rx
  obtain ⟨bs, r2⟩ := Dp.reads I (.tuple ds) y u he ry
  exact SeqAt.in_tuple_reads r2 r1 (SeqAt.canLay_of_shaped se) (SeqAt.canLay_of_shaped sd) (room_in_shaped sd hu) ⟨.bl _, H, I, rfl, q⟩
theorem op_notInT (hu : X.A.units + 65 < cLine) : OpR X (compareOp .NotIn) (rInT X.K true) := by
  intro pins s σ H x y v u Q I rx ry h
  obtain ⟨d, ds, hd, he, sd, se, q⟩ := h
  obtain ⟨as, r1⟩ := Dp.reads I d x v hd rx
  obtain ⟨bs, r2⟩ := Dp.reads I (.tuple ds) y u he ry
  exact SeqAt.notIn_tuple_reads r2 r1 (SeqAt.canLay_of_shaped se) (SeqAt.canLay_of_shaped sd) (room_in_shaped sd hu) ⟨.bl _, H, I, rfl, q⟩
def rStrA : List V → Hp → VK → Prop := fun xs H Q => (∃ i, xs = [.int i] ∧ i.natAbs.log2 < 1920 ∧ Q (.str (toString i)) H) ∨ ∃ a, xs = [.str a] ∧ Q (.str a) H
theorem call_strA : CallR X (.type "str") rStrA := by
  intro pins s σ H xs us Q I r h
  rcases h with ⟨i, rfl, hz, q⟩ | ⟨a, rfl, q⟩
  · obtain ⟨u, rfl, t, rfl⟩ := vals1 r
    exact PySem.P.str_of_int hz ⟨.str _, H, I.tok _, ⟨_, rfl⟩, q⟩
  · obtain ⟨u, rfl, t, rfl⟩ := vals1 r
    exact PySem.P.str_of_str ⟨.str a, H, I, ⟨t, rfl⟩, q⟩
end
open WN WQ WS WC WE
/-! ### steps -/
section
variable {X : Cx}
def rAnyB (K : PySem.W.Frag) : List V → Hp → VK → Prop := rAny K
theorem cc_any (X : Cx) (h : X.calm = true) : CallR X (.builtin "any") (rAnyB X.K) := cr_any h
def rSortS (K : PySem.W.Frag) : List V → Hp → VK → Prop := rSortedS K
theorem cc_sortedS (X : Cx) (_ : X.calm = true) : CallR X (.builtin "sorted") (rSortS X.K) := cr_sortedS
end
section
variable {K : PySem.W.Frag} {σ : L2.St} {H : Hp} {Q : VK} {te td ty tx : TE} {tt : TT} {a l b : Addr} {xs ys : List V} {y : V} {vs : List Nat} {i : Nat} {J : It}
theorem e_setd (h : td σ H fun x H1 => ∃ a kvs0, x = .ref a ∧ H1 a = some (.dT kvs0) ∧ ty σ H1 fun y H2 => tx σ H2 fun z H3 => ∃ (kvs : List (List Key × V)) (k : List Key) (b : Addr), H3 a = some (.dT kvs) ∧ y = .ref b ∧ H3 b = some (.tup (k.map kV)) ∧ kvs.length < sizeLine ∧
  (∀ v, valV kvs k = some v → Q v H3) ∧ (valV kvs k = none → Q z (upd H3 a (.dT (putK kvs k z))))) : tDSetdT td ty tx σ H Q := h
theorem e_dnewT (h : ∀ p H2, H p = none → Same H H2 → H2 p = some (.dT []) → Q (.ref p) H2) : tDNewT σ H Q := fun p np => h p _ np (same_new np) upd_same
theorem e_din (h : ty σ H fun y H1 => td σ H1 fun x H2 => ∃ a o, x = .ref a ∧ DGet H2 a y o ∧ Q (.bl o.isSome) H2) : tDIn ty td σ H Q := h
theorem e_dnotin (h : ty σ H fun y H1 => td σ H1 fun x H2 => ∃ a o, x = .ref a ∧ DGet H2 a y o ∧ Q (.bl (!o.isSome)) H2) : tDNotIn ty td σ H Q := h
theorem kd_t {kvs : List (List Key × V)} {k : List Key} {v : V} (e : H a = some (.dT kvs)) (eb : H b = some (.tup (k.map kV))) (g : valV kvs k = some v) (h : Q v H) : WD.KD (.ref a) (.ref b) H Q :=
  ⟨a, v, rfl, g ▸ DGet.t e eb, h⟩
theorem e_lockE {u : HO} (e : H a = some u) (m : Mut (some u)) (h : ∀ od H1, H1 a = some (.frz od u) → (∀ b o, b ≠ a → H b = some o → H1 b = some o) → (∀ b, H1 b = none → H b = none) →
    te σ H1 fun v H' => H' a = some (.frz od u) ∧ Q v (upd H' a u)) : tLockE te σ H Q := ⟨a, u, e, m, fun od => h od _ upd_same (fun b o n q => by rw [upd_ne n]; exact q) fun b q => by
  by_cases n : b = a
  · subst n
    rw [upd_same] at q
    cases q
  · rwa [upd_ne n] at q⟩
theorem b_sortS {xs : List Str} (hs : SqL K H a (xs.map V.str)) (hz : xs.length < 64) (h : ∀ p H2 (zs : List Str), zs.Perm xs → H p = none → Same H H2 → H2 p = some (.lst (zs.map V.str)) → Q (.ref p) H2) : rSortS K [.ref a] H Q :=
  ⟨a, xs, rfl, hs, hz, fun zs p hp _ np => h p _ zs hp np (same_new np) upd_same⟩
theorem c_strI {i : Int} (hz : i.natAbs < 10 ^ 40) (h : Q (.str (toString i)) H) : rStrA [.int i] H Q := .inl ⟨i, rfl, log_small hz, h⟩
theorem c_strS {x : Str} (h : Q (.str x) H) : rStrA [.str x] H Q := .inr ⟨x, rfl, h⟩
/-- the keys of a dict of texts, each as a text -/
theorem c_keys {od : Obj} {kvs : List (Key × V)} (e : H a = some (.frz od (.dK kvs))) (hk : ∀ q ∈ kvs, ∃ x, q.1 = .inr x) (hz : kvs.length ≤ 100000) (hw : ∀ x, wipe ((wipe σ vs).set i (some x)) vs = wipe σ vs)
    (hte : ∀ x H1 (N : VK), Same H H1 → N (.str x) H1 → te ((wipe σ vs).set i (some (.str x))) H1 N)
    (post : ∀ D H2 (xs : List Str), H D = none → Same H H2 → H2 D = some (.lst (xs.map V.str)) → kvs.map (·.1) = xs.map Sum.inr → Q (.ref D) H2) : LoopC (Itk a od kvs) (gName i) tYes te vs σ H Q := by
  refine WO.c_it walk_keys (fun D i acc H1 => ∃ xs : List Str, acc = xs.map V.str ∧ (kvs.take i).map (·.1) = xs.map Sum.inr) (fun H' s => s _ _ e) (fun i H1 x H2 y => by rw [y.1]; exact Same.refl _) (small1000' hz)
    (fun D i acc H1 r => ?_) (fun D i acc H1 H2 c y r => r) (fun D H1 nD s1 e1 => ⟨[], rfl, rfl⟩) (fun D i x H1 H2 acc N M hi nD s1 e1 r y s2 hN hM => ?_) (fun D H2 ys nD s2 e2 r => ?_)
  · obtain ⟨xs, rfl, h2⟩ := r
    have := congrArg List.length h2
    rw [List.length_map, List.length_map, List.length_take] at this
    rw [List.length_map]
    omega
  · obtain ⟨xs, rfl, h2⟩ := r
    obtain ⟨rfl, k, v, g, rfl⟩ := y
    obtain ⟨z, hz⟩ := hk _ (List.mem_of_getElem? g)
    have hz : k = .inr z := hz
    subst hz
    refine g_name ⟨hw _, t_yes ?_⟩
    refine iteTT rfl (hte z H2 _ s1 (hN _ _ (Same.refl _) ⟨xs ++ [z], by rw [List.map_append]; rfl, ?_⟩))
    rw [List.take_add_one, g, List.map_append, h2, List.map_append]
    rfl
  · obtain ⟨xs, rfl, h2⟩ := r
    rw [List.take_of_length_le (Nat.le_refl _)] at h2
    exact post D H2 xs nD s2 e2 h2
theorem e_dgetT (h : td σ H fun x H1 => ty σ H1 fun y H2 => ∃ a v, x = .ref a ∧ DGet H2 a y (some v) ∧ Q v H2) : tDGet td ty σ H Q := h
theorem m_bm0 {T : String} {r : V → List V → Hp → VK → Prop} (h : te σ H fun x H1 => tyV K T x H1 ∧ r x [] H1 Q) : tBM0 K T r te σ H Q := h
theorem m_pop (e : H l = some (.lst (xs ++ [y]))) (h : ∀ H2, Chg l H H2 → H2 l = some (.lst xs) → Q y H2) : rPop (.ref l) [] H Q :=
  ⟨l, _, y, rfl, rfl, e, by simp, h _ chg_upd (by rw [List.dropLast_concat]; exact upd_same)⟩
theorem m_ext (e : H l = some (.lst xs)) (e2 : H b = some (.lst ys)) (hz : xs.length + ys.length ≤ sizeLine) (h : ∀ H2, Chg l H H2 → H2 l = some (.lst (xs ++ ys)) → Q .non H2) : rExtend (.ref l) [.ref b] H Q :=
  ⟨l, b, xs, ys, rfl, rfl, e, e2, hz, h _ chg_upd upd_same⟩
theorem b_any {bs : List Bool} (hs : SqL K H a (bs.map V.bl)) (h : Q (.bl (bs.any id)) H) : rAnyB K [.ref a] H Q := ⟨a, bs, rfl, hs, h⟩
/-- items of a list that pass a test, and what is made of each: as data -/
theorem c_sel {α : Type} {F G : α → PyData} {p : α → Bool} {us : List V} {zs : List α} (hJ : SqIt K a us J H) (t : TpAll H us (zs.map F)) (hz : zs.length ≤ 100000) (hw : ∀ x, wipe ((wipe σ vs).set i (some x)) vs = wipe σ vs)
    (ht : ∀ x u H1 (N : Bool → Hp → Prop), x ∈ zs → Tp H1 u (F x) → Same H H1 → (∀ H3, Same H1 H3 → N (p x) H3) → tt ((wipe σ vs).set i (some u)) H1 N)
    (hte : ∀ x u H1 (N : VK), x ∈ zs → p x = true → Tp H1 u (F x) → Same H H1 → (∀ y H3, Same H1 H3 → Tp H3 y (G x) → N y H3) → te ((wipe σ vs).set i (some u)) H1 N)
    (post : ∀ D H2 ys, H D = none → Same H H2 → H2 D = some (.lst ys) → TpAll H2 ys ((zs.filter p).map G) → Q (.ref D) H2) : LoopC J (gName i) tt te vs σ H Q := by
  have hl : us.length = zs.length := by have := t.length; rw [List.length_map] at this; exact this
  refine c_acc hJ (fun i acc H => TpAll H acc (((zs.take i).filter p).map G)) (fun i acc H H' k h => h.tk k) (fun i acc H hi h => ?_) .nil (fun j x H1 acc N M hx s1 r hN hM => ?_) (fun D H2 ys nD s2 e2 r => ?_)
  · have h1 := h.length
    have h2 := List.length_filter_le p (zs.take i)
    rw [List.length_map] at h1
    rw [List.length_take] at h2
    exact small1000' (by omega)
  · obtain ⟨z, hz1, tz⟩ := tpGet t hx
    have hm : z ∈ zs := List.mem_of_getElem? hz1
    have ek : zs.take (j + 1) = zs.take j ++ [z] := by
      rw [List.take_add_one, hz1]; rfl
    refine g_name ⟨hw _, ht z x H1 _ hm (tz.tk s1.tk) s1 fun H3 s3 => ?_⟩
    by_cases hp : p z = true
    · refine iteTT hp ?_
      refine hte z x H3 _ hm hp (tz.tk (s1.trans s3).tk) (s1.trans s3) fun y H4 s4 ty => hN y H4 (s3.trans s4) ?_
      show TpAll H4 (acc ++ [y]) _
      rw [ek, List.filter_append, List.filter_cons_of_pos hp, List.filter_nil, List.map_append]
      exact tpSnoc (r.tk (s3.trans s4).tk) ty
    · refine iteFF (Bool.eq_false_iff.mpr hp) (hM H3 s3 ?_)
      show TpAll H3 acc _
      rw [ek, List.filter_append, List.filter_cons_of_neg hp, List.filter_nil, List.append_nil]
      exact r.tk s3.tk
  · rw [hl, List.take_of_length_le (Nat.le_refl _)] at r
    exact post D H2 ys nD s2 e2 r
end
end WXD
/-! WV: split, startswith, a def as a value, a statement that is never reached. -/
namespace WV
open PySem PySem.Spec PyProof.Rows L2 Wy
section
variable {X : Cx}
def rSplit1 : V → List V → Hp → VK → Prop := fun x xs H Q => ∃ a b, x = .str a ∧ xs = [.str b] ∧ (b.length == 0) = false ∧ a.length + 2 ≤ sizeLine ∧ rNewStrs (Txt.split a b) H Q
theorem mt_split1 : MtR X "str.split" rSplit1 := mt_split
def rStarts : V → List V → Hp → VK → Prop := fun x xs H Q => ∃ a b, x = .str a ∧ xs = [.str b] ∧ Q (.bl (Txt.startswith a b)) H
theorem mt_starts : MtR X "str.startswith" rStarts := mt_startswith
theorem pe_joinK {K : PySem.W.Frag} {o e : Expr} {to te : TE} {apos pos : Pos} (ho : PE X o to) (he : PE X e te) (hK : X.K = K := by rfl) (hs : starEach [e] X.env = [(false, eval e X.env)] := by rfl) (hbase : attributeBase o "join" X.env (eval o X.env) = eval o X.env := by rfl) (hline : (apos.endLine == pos.line) = true := by rfl) :
    PE X (.Call (.Attribute o "join" apos) [e] [] pos) (tM1 (rJoin K) to te) := hK ▸ pe_join2 ho he hs hbase hline
/-- a statement that is never reached -/
theorem ps_never {st : Stmt} : PS X st (fun _ _ _ => False) := ⟨fun pins s σ H D I h => h.elim⟩
noncomputable def fAt {K : PySem.W.Frag} {mg : Str → Option Value} {x : Str} {st : Stmt} (F : DefOk K mg x st) : Addr := F.ex.choose
theorem fAt_mg {K : PySem.W.Frag} {mg : Str → Option Value} {x : Str} {st : Stmt} (F : DefOk K mg x st) : mg x = some (.ref (fAt F)) := F.ex.choose_spec.choose_spec.2
theorem fAt_ne {K : PySem.W.Frag} {mg : Str → Option Value} {x y : Str} {st st' : Stmt} (F : DefOk K mg x st) (G : DefOk K mg y st') (h : x ≠ y) : fAt F ≠ fAt G := fun e => by
  have h1 := F.ex.choose_spec.choose_spec.1
  have h2 := G.ex.choose_spec.choose_spec.1
  have e : F.ex.choose = G.ex.choose := e
  generalize F.ex.choose_spec.choose = fd1 at h1
  generalize G.ex.choose_spec.choose = fd2 at h2
  rw [e] at h1
  obtain ⟨oc, od, dV, kV, doc, pm, an, cdv, ct, osl, e1, l1, _⟩ := h1.ex
  obtain ⟨oc2, od2, dV2, kV2, doc2, pm2, an2, cdv2, ct2, osl2, e2, l2, _⟩ := h2.ex
  rw [l1] at l2
  have e3 := Option.some.inj l2
  have e4 : fd1 = fd2 := by
    have e5 := congrArg Obj.data e3
    injection e5
  rw [e1, e2] at e4
  exact h (congrArg FuncData.name e4)
/-- the promise of a def, by its address -/
theorem held_of {P : Program} {w : World} {K : PySem.W.Frag} {mg : Str → Option Value} {base : Heap} {k : Nat} {x : Str} {st : Stmt} {sp : Sp} (F : DefOk K mg x st) (c : C8.Cal P w K mg base k x sp []) : Held P w K mg base k (fAt F) sp := by
  obtain ⟨f, fd, ps, ds, h1, h2, h3, h4, h5⟩ := c.ex
  have e := fAt_mg F
  rw [h2] at e
  cases e
  cases h5
  exact ⟨fd, ps, h1, h3, h4⟩
theorem pe_fn {x : Str} {st : Stmt} {p : Pos} (F : DefOk X.K X.mg x st) (hg : Gl X x) (hdb : (x == ("__debug__" : Str)) = false := by decide) : PE X (.Name x p) (tC (.ref (fAt F))) := C8.pe_gc hg ⟨_, fAt_mg F, rfl⟩ hdb
end
section
variable {σ : L2.St} {H : Hp} {Q : VK}
theorem m_split {a b : Str} (hb : (b.length == 0) = false) (hz : a.length + 2 ≤ sizeLine) (h : ∀ p H2, H p = none → Same H H2 → H2 p = some (.lst ((Txt.split a b).map V.str)) → Q (.ref p) H2) : rSplit1 (.str a) [.str b] H Q := ⟨a, b, rfl, rfl, hb, hz, new_same h⟩
theorem m_starts {a b : Str} (h : Q (.bl (Txt.startswith a b)) H) : rStarts (.str a) [.str b] H Q := ⟨a, b, rfl, rfl, h⟩
theorem e_callA {i : Nat} {f : Addr} {sp : Sp} {S : Addr → Option Sp} {t : TA} (hs : σ[i]? = some (some (.ref f))) (hS : S f = some sp) (h : t σ H fun vs H1 => sp vs H1 Q (fun _ _ _ => False)) : tCallA i S t σ H Q := ⟨f, sp, hs, hS, h⟩
end
end WV
/-! WU: runs of programs whose variables are integers: what a run does, in plain Lean. -/
namespace WU
open PySem PySem.Spec PyProof.Rows L2 Wy
inductive EE where
  | num (n : Int)
  | var (x : Str) (p : Int)
def EE.d : EE → PyData
  | .num n => .tuple [.str "num", .int n]
  | .var x p => .tuple [.str "var", .str x, .int p]
abbrev Env := List (Str × Int)
def look (e : Env) (x : Str) : Option Int := (e.find? fun p => decide (p.1 = x)).map (·.2)
def putE (e : Env) (x : Str) (v : Int) : Env := if (e.any fun p => decide (p.1 = x)) = true then e.map (fun p => if p.1 = x then (p.1, v) else p) else e ++ [(x, v)]
def kvE (e : Env) : List (Key × V) := e.map fun p => (.inr p.1, .int p.2)
theorem kvE_len (e : Env) : (kvE e).length = e.length := List.length_map ..
theorem key_eq (x y : Str) : decide ((.inr x : Key) = .inr y) = decide (x = y) := by
  rw [decide_eq_decide]
  exact ⟨fun e => Sum.inr.inj e, fun e => by rw [e]⟩
theorem kv_look (e : Env) (x : Str) : valV (kvE e) (.inr x) = (look e x).map V.int := by
  unfold valV look kvE
  rw [List.find?_map]
  have h : ((fun kv : Key × V => decide (kv.1 = (.inr x : Key))) ∘ fun p : Str × Int => ((.inr p.1 : Key), V.int p.2)) = fun p => decide (p.1 = x) := funext fun p => key_eq p.1 x
  rw [h]
  cases e.find? fun p => decide (p.1 = x) <;> rfl
theorem kv_put (e : Env) (x : Str) (v : Int) : putK (kvE e) (.inr x) (.int v) = kvE (putE e x v) := by
  unfold putK putE kvE
  rw [List.any_map]
  have h : ((fun kv : Key × V => decide (kv.1 = (.inr x : Key))) ∘ fun p : Str × Int => ((.inr p.1 : Key), V.int p.2)) = fun p => decide (p.1 = x) := funext fun p => key_eq p.1 x
  rw [h]
  by_cases c : (e.any fun p => decide (p.1 = x)) = true
  · rw [if_pos c, if_pos c, List.map_map, List.map_map]
    refine List.map_congr_left fun p _ => ?_
    show (if (.inr p.1 : Key) = .inr x then ((.inr p.1 : Key), V.int v) else (.inr p.1, .int p.2)) = (fun q : Str × Int => ((.inr q.1 : Key), V.int q.2)) (if p.1 = x then (p.1, v) else p)
    by_cases c2 : p.1 = x
    · rw [if_pos (by rw [c2]), if_pos c2]
    · rw [if_neg (fun z => c2 (Sum.inr.inj z)), if_neg c2]
  · rw [if_neg c, if_neg c, List.map_append]
    rfl
def EE.ev (env : Env) : EE → Option Int
  | .num n => some n
  | .var x p => (look env x).map (· + p)
structure Cm where
  s : Nat
  l : EE
  r : EE
def Cm.d (c : Cm) : PyData := .tuple [.str "cmp", .str (WD.SG.getD c.s ""), c.l.d, c.r.d]
def Cm.ev (env : Env) (c : Cm) : Option Bool := if c.s < 6 then match c.l.ev env, c.r.ev env with
  | some a, some b => some (WD.cmpB c.s a b)
  | _, _ => none
  else none
inductive SS where
  | let_ (row : Int) (x : Str) (rg : Option (Int × Int)) (e : EE)
  | set (row : Int) (x : Str) (e : EE)
  | call (row : Int) (x f : Str) (as : List EE)
  | ite (row : Int) (c : Cm) (a b : List SS)
  | loop (row : Int) (c : Cm) (most : Int) (b : List SS)
  | check (row : Int) (c : Cm)
  | answer (row : Int) (e : EE)
  | ret (row : Int) (e : EE)
def SS.row : SS → Int
  | .let_ r .. => r
  | .set r .. => r
  | .call r .. => r
  | .ite r .. => r
  | .loop r .. => r
  | .check r .. => r
  | .answer r .. => r
  | .ret r .. => r
def SS.word : SS → Str
  | .let_ .. => "let"
  | .set .. => "set"
  | .call .. => "call"
  | .ite .. => "if"
  | .loop .. => "while"
  | .check .. => "check"
  | .answer .. => "answer"
  | .ret .. => "return"
def lohi : Option (Int × Int) → PyData × PyData
  | none => (.none, .none)
  | some (lo, hi) => (.int lo, .int hi)
mutual
def SS.d : SS → PyData
  | .let_ row x rg e => .tuple [.str "let", .int row, .str x, (lohi rg).1, (lohi rg).2, e.d]
  | .set row x e => .tuple [.str "set", .int row, .str x, e.d]
  | .call row x f as => .tuple [.str "call", .int row, .str x, .str f, .tuple (as.map EE.d)]
  | .ite row c a b => .tuple [.str "if", .int row, c.d, .tuple (SS.ds a), .tuple (SS.ds b)]
  | .loop row c most b => .tuple [.str "while", .int row, c.d, .int most, .tuple (SS.ds b)]
  | .check row c => .tuple [.str "check", .int row, c.d]
  | .answer row e => .tuple [.str "answer", .int row, e.d]
  | .ret row e => .tuple [.str "return", .int row, e.d]
def SS.ds : List SS → List PyData
  | [] => []
  | s :: r => s.d :: SS.ds r
end
theorem ds_map : ∀ b : List SS, SS.ds b = b.map SS.d
  | [] => rfl
  | s :: r => by rw [SS.ds, ds_map r]; rfl
/-- every row begins with its word and its number -/
theorem SS.head (s : SS) : ∃ r, s.d = .tuple (.str s.word :: .int s.row :: r) := by
  cases s <;> exact ⟨_, by rw [SS.d]; rfl⟩
structure St where
  env : Env
  val : Int
  evs : List PyData
  out : Option PyData
def ev2 (k : Str) (row : Int) : PyData := .tuple [.str k, .int row]
def evF (row : Int) (k : Str) : PyData := .tuple [.str "fault", .int row, .str k]
def evT (row turn : Int) : PyData := .tuple [.str "turn", .int row, .int turn]
def St.note (st : St) (d : PyData) : St := { st with evs := st.evs ++ [d] }
def St.fault (st : St) (row : Int) (k : Str) : St := { st with evs := st.evs ++ [evF row k], out := some (evF row k) }
abbrev Rg := List (Str × Int × Int)
abbrev Fs := List (Str × List Str × List SS)
def lookR {α : Type} (r : List (Str × α)) (x : Str) : Option α := (r.find? fun p => decide (p.1 = x)).map (·.2)
def SS.rng : SS → Option (Str × Int × Int)
  | .let_ _ x (some (lo, hi)) _ => some (x, lo, hi)
  | _ => none
def rngOf (b : List SS) : Rg := b.filterMap SS.rng
def evAll (env : Env) : List EE → Option (List Int)
  | [] => some []
  | e :: r => match e.ev env, evAll env r with
    | some v, some vs => some (v :: vs)
    | _, _ => none
abbrev Rs := Option (St × Bool)
abbrev Rec := Rg → List SS → St → Rs
def outR (rg : Rg) (x : Str) (v : Int) : Bool := match lookR rg x with
  | some (lo, hi) => !(decide (lo ≤ v) && decide (v ≤ hi))
  | none => false
def put (row : Int) (x : Str) (rg : Rg) (v : Int) (st : St) : Rs :=
  if outR rg x v = true then some (st.fault row "range", false)
  else if st.env.length < 1000 then some ({ st with env := putE st.env x v }, true) else none
def xW (rec : Rec) (rg : Rg) (row : Int) (c : Cm) (most : Int) (b : List SS) : Nat → Int → St → Rs
  | 0, _, _ => none
  | k + 1, turn, st => match c.ev st.env with
    | none => none
    | some false => some (st.note (ev2 "no" row), true)
    | some true => if turn = most then some ((st.note (ev2 "yes" row)).fault row "turns", false) else
      match rec rg b ((st.note (ev2 "yes" row)).note (evT row (turn + 1))) with
      | none => none
      | some (st2, false) => some (st2, false)
      | some (st2, true) => xW rec rg row c most b k (turn + 1) (st2.note (ev2 "row" row))
def goodF (ps : List Str) (vs : List Int) (body : List SS) : Prop := ps.length = vs.length ∧ ps.Nodup ∧ ((rngOf body).map (·.1)).Nodup ∧ ps.length ≤ 100 ∧ body.length ≤ 1000
instance {ps : List Str} {vs : List Int} {body : List SS} : Decidable (goodF ps vs body) := by
  unfold goodF
  infer_instance
def xS (fs : Fs) (rec : Rec) (rg : Rg) (s : SS) (st : St) : Rs := match s with
  | .let_ row x _ e => match e.ev st.env with
    | none => none
    | some v => put row x rg v st
  | .set row x e => match e.ev st.env with
    | none => none
    | some v => put row x rg v st
  | .call row x f as => match evAll st.env as, lookR fs f with
    | some vs, some (ps, body) => if goodF ps vs body then match rec (rngOf body) body ⟨ps.zip vs, 0, st.evs, st.out⟩ with
        | none => none
        | some (st2, _) => match st2.out with
          | some o => some ({ st with evs := st2.evs, out := some o }, false)
          | none => put row x rg st2.val { st with evs := st2.evs, out := none }
      else none
    | _, _ => none
  | .ite row c a b => match c.ev st.env with
    | none => none
    | some t => rec rg (if t = true then a else b) (st.note (ev2 (if t = true then "yes" else "no") row))
  | .loop row c most b => xW rec rg row c most b (most.toNat + 1) 0 st
  | .check row c => match c.ev st.env with
    | none => none
    | some true => some (st.note (ev2 "yes" row), true)
    | some false => some ((st.note (ev2 "no" row)).fault row "check", false)
  | .answer _ e => match e.ev st.env with
    | none => none
    | some v => some ({ st with out := some (.tuple [.str "answer", .int v]) }, false)
  | .ret _ e => match e.ev st.env with
    | none => none
    | some v => some ({ st with val := v }, false)
def xL (f : SS → St → Rs) : List SS → St → Rs
  | [], st => some (st, true)
  | s :: r, st => match f s (st.note (ev2 "row" s.row)) with
    | none => none
    | some (st2, false) => some (st2, false)
    | some (st2, true) => xL f r st2
def xB (fs : Fs) : Nat → Rec
  | 0 => fun _ _ _ => none
  | n + 1 => fun rg b st => xL (xS fs (xB fs n) rg) b st
/-! ### events are never taken back -/
theorem note_le (st : St) (d : PyData) : st.evs.length ≤ (st.note d).evs.length := by
  show _ ≤ (st.evs ++ [d]).length
  rw [List.length_append]
  omega
theorem fault_le (st : St) (row : Int) (k : Str) : st.evs.length ≤ (st.fault row k).evs.length := note_le st _
def Up (f : St → Rs) : Prop := ∀ st st' ok, f st = some (st', ok) → st.evs.length ≤ st'.evs.length
theorem put_up (row : Int) (x : Str) (rg : Rg) (v : Int) : Up (put row x rg v) := fun st st' ok h => by
  unfold put at h
  split at h
  · cases h
    exact fault_le st _ _
  · split at h
    · cases h
      exact Nat.le_refl _
    · cases h
theorem xW_up {rec : Rec} (hr : ∀ rg b, Up (rec rg b)) (rg : Rg) (row : Int) (c : Cm) (most : Int) (b : List SS) : ∀ k turn, Up (xW rec rg row c most b k turn)
  | 0, _ => fun st st' ok h => by cases h
  | k + 1, turn => fun st st' ok h => by
    unfold xW at h
    split at h
    · cases h
    · cases h
      exact note_le st _
    · split at h
      · cases h
        exact Nat.le_trans (note_le st _) (fault_le _ _ _)
      · split at h
        · cases h
        · rename_i st2 e
          cases h
          exact Nat.le_trans (Nat.le_trans (note_le st _) (note_le _ _)) (hr _ _ _ _ _ e)
        · rename_i st2 e
          exact Nat.le_trans (Nat.le_trans (Nat.le_trans (note_le st _) (note_le _ _)) (hr _ _ _ _ _ e)) (Nat.le_trans (note_le _ _) (xW_up hr rg row c most b k (turn + 1) _ _ _ h))
theorem xS_up {fs : Fs} {rec : Rec} (hr : ∀ rg b, Up (rec rg b)) (rg : Rg) (s : SS) : Up (xS fs rec rg s) := fun st st' ok h => by
  unfold xS at h
  split at h
  · split at h
    · cases h
    · exact put_up _ _ _ _ _ _ _ h
  · split at h
    · cases h
    · exact put_up _ _ _ _ _ _ _ h
  · split at h
    · split at h
      · split at h
        · cases h
        · rename_i st2 ok2 e
          have e2 : st.evs.length ≤ st2.evs.length := hr _ _ ⟨_, 0, st.evs, st.out⟩ _ _ e
          split at h
          · cases h
            exact e2
          · exact Nat.le_trans e2 (put_up _ _ _ _ ⟨st.env, st.val, st2.evs, none⟩ _ _ h)
      · cases h
    · cases h
  · split at h
    · cases h
    · exact Nat.le_trans (note_le st _) (hr _ _ _ _ _ h)
  · exact xW_up hr _ _ _ _ _ _ _ _ _ _ h
  · split at h
    · cases h
    · cases h
      exact note_le st _
    · cases h
      exact Nat.le_trans (note_le st _) (fault_le _ _ _)
  · split at h
    · cases h
    · cases h
      exact Nat.le_refl _
  · split at h
    · cases h
    · cases h
      exact Nat.le_refl _
theorem xL_up {f : SS → St → Rs} (hf : ∀ s, Up (f s)) : ∀ b, Up (xL f b)
  | [] => fun st st' ok h => by
    cases h
    exact Nat.le_refl _
  | s :: r => fun st st' ok h => by
    unfold xL at h
    split at h
    · cases h
    · rename_i st2 e
      cases h
      exact Nat.le_trans (note_le st _) (hf _ _ _ _ e)
    · rename_i st2 e
      exact Nat.le_trans (Nat.le_trans (note_le st _) (hf _ _ _ _ e)) (xL_up hf r _ _ _ h)
theorem xB_up (fs : Fs) : ∀ n rg b, Up (xB fs n rg b)
  | 0, _, _ => fun st st' ok h => by cases h
  | n + 1, rg, b => fun st st' ok h => xL_up (fun s => xS_up (xB_up fs n) rg s) b st st' ok h
/-! ### the heap of a run -/
def noT : HO → Bool
  | .tbl _ => false
  | .ext _ => false
  | _ => true
def noTup : HO → Bool
  | .tup _ => false
  | _ => true
/-- what stands is kept, but for the objects of S -/
structure Fr (T : List (Addr × Str)) (S : List Addr) (H H' : Hp) : Prop where
  k : ∀ b o, b ∉ S → noT o = true → H b = some o → H' b = some o
  t : LamX.Tabs T H → LamX.Tabs T H'
  tk : TK H H'
section
variable {T : List (Addr × Str)} {S S' : List Addr} {H H1 H2 H' : Hp} {a b : Addr}
theorem Fr.refl : Fr T S H H := ⟨fun _ _ _ _ e => e, fun t => t, TK.refl H⟩
theorem Fr.trans (a : Fr T S H H1) (b : Fr T S H1 H2) : Fr T S H H2 := ⟨fun c o n z e => b.k c o n z (a.k c o n z e), fun t => b.t (a.t t), a.tk.trans b.tk⟩
theorem Fr.mono (a : Fr T S H H1) (h : ∀ x ∈ S, x ∈ S') : Fr T S' H H1 := ⟨fun c o n z e => a.k c o (fun m => n (h c m)) z e, a.t, a.tk⟩
theorem Fr.of (s : Same H H') : Fr T S H H' := ⟨fun c o _ _ e => s c o e, fun t => t.ext s, s.tk⟩
theorem Fr.lam (e : LamX.ExtN H H') (t : LamX.Tabs T H') : Fr T S H H' := ⟨fun c o _ z h => e c o h (fun ps q => by rw [q] at z; cases z), fun _ => t, WL.ExtN.tk e⟩
theorem Fr.chg {o : HO} (c : Chg a H H') (e : H a = some o) (n : noT o = true) (n2 : noTup o = true) : Fr T [a] H H' := by
  refine ⟨fun b u m _ h => c.at h (fun z => m (by rw [z]; exact List.mem_singleton.mpr rfl)), fun t p hp => ?_, fun b xs h => c.at h (fun z => ?_)⟩
  · obtain ⟨ps, h1, h2, h3⟩ := t p hp
    refine ⟨ps, c.at h1 (fun z => ?_), h2, fun pos cv g => ?_⟩
    · rw [z, e] at h1
      cases h1
      cases n
    · obtain ⟨d, e1, e2⟩ := h3 pos cv g
      refine ⟨d, e1, c.at e2 (fun z => ?_)⟩
      rw [z, e] at e2
      cases e2
      cases n
  · rw [z, e] at h
    cases h
    cases n2
/-- a thing that was made in between may change -/
theorem Fr.drop (f : Fr T S H H1) (g : Fr T (S ++ S') H1 H2) (h : ∀ x ∈ S', ∀ o, noT o = true → H x ≠ some o) : Fr T S H H2 :=
  ⟨fun c o n z e => g.k c o (fun m => (List.mem_append.mp m).elim n (fun m => h c m o z e)) z (f.k c o n z e), fun t => g.t (f.t t), f.tk.trans g.tk⟩
def OutV (H : Hp) (ov : V) : Option PyData → Prop
  | none => ov = .non
  | some d => Tp H ov d ∧ ov ≠ .non
theorem OutV.tk {ov : V} {out : Option PyData} (k : TK H H') (h : OutV H ov out) : OutV H' ov out := by
  cases out with
  | none => exact h
  | some d => exact ⟨Tp.tk k h.1, h.2⟩
/-- the addresses of a runner, of a visit -/
structure RA where
  rn : Addr
  dr : Addr
  ev : Addr
  fd : Addr
  wt : Addr
  dw : Addr
  pl : Addr
structure VA where
  vi : Addr
  dv : Addr
  vd : Addr
  rd : Addr
abbrev rnF (ov : V) (R : RA) : List (Str × V) := [("outcome", ov), ("events", .ref R.ev), ("met", .non), ("functions", .ref R.fd), ("_watch", .ref R.wt)]
abbrev viF (A : VA) (val : Int) : List (Str × V) := [("variables", .ref A.vd), ("ranges", .ref A.rd), ("value", .int val)]
structure RunAt (K : PySem.W.Frag) (H : Hp) (R : RA) (evs : List PyData) (out : Option PyData) : Prop where
  ins : ∃ ov, H R.rn = some (.ins (He.ga K "Runner") R.dr (rnF ov R)) ∧ OutV H ov out
  evl : ∃ us, H R.ev = some (.lst us) ∧ TpAll H us evs
  wat : H R.wt = some (.ins (He.ga K "Watch") R.dw [("progress", .int 0), ("_place", .ref R.pl)])
  pl : ∀ H, SqT K H R.pl []
def RngAt (H : Hp) (rd : Addr) (rg : Rg) : Prop := ∃ kvs, H rd = some (.dK kvs) ∧ ∀ x, (lookR rg x = none → valV kvs (.inr x) = none) ∧ ∀ lo hi, lookR rg x = some (lo, hi) → ∃ t, valV kvs (.inr x) = some (.ref t) ∧ H t = some (.tup [.int lo, .int hi])
structure VisAt (K : PySem.W.Frag) (H : Hp) (A : VA) (rg : Rg) (env : Env) (val : Int) : Prop where
  ins : H A.vi = some (.ins (He.ga K "Visit") A.dv (viF A val))
  var : H A.vd = some (.dK (kvE env))
  rng : RngAt H A.rd rg
def FunsAt (H : Hp) (fd : Addr) (fs : Fs) : Prop := ∃ kvs, H fd = some (.dK kvs) ∧ ∀ f ps body, lookR fs f = some (ps, body) → ∃ t u v, valV kvs (.inr f) = some (.ref t) ∧ H t = some (.tup [u, v]) ∧ Tp H u (.tuple (ps.map PyData.str)) ∧ Tp H v (.tuple (SS.ds body))
/-- all these stand apart -/
structure Apt (R : RA) (A : VA) : Prop where
  n1 : R.rn ≠ R.ev
  n2 : R.rn ≠ A.vi
  n3 : R.rn ≠ A.vd
  n4 : R.ev ≠ A.vi
  n5 : R.ev ≠ A.vd
  n6 : A.vi ≠ A.vd
  w1 : R.wt ≠ R.rn
  w2 : R.wt ≠ R.ev
  w3 : R.wt ≠ A.vi
  w4 : R.wt ≠ A.vd
  f1 : R.fd ≠ R.rn
  f2 : R.fd ≠ R.ev
  f3 : R.fd ≠ A.vi
  f4 : R.fd ≠ A.vd
  r1 : A.rd ≠ R.rn
  r2 : A.rd ≠ R.ev
  r3 : A.rd ≠ A.vi
  r4 : A.rd ≠ A.vd
variable {K : PySem.W.Frag} {R : RA} {A : VA} {evs : List PyData} {out : Option PyData} {rg : Rg} {env : Env} {val : Int} {fs : Fs}
theorem RunAt.fr (h : RunAt K H R evs out) (f : Fr T S H H') (n1 : R.rn ∉ S) (n2 : R.ev ∉ S) (n3 : R.wt ∉ S) : RunAt K H' R evs out := by
  obtain ⟨⟨ov, e1, o1⟩, ⟨us, e2, t2⟩, e3, p⟩ := h
  exact ⟨⟨ov, f.k _ _ n1 rfl e1, o1.tk f.tk⟩, ⟨us, f.k _ _ n2 rfl e2, t2.tk f.tk⟩, f.k _ _ n3 rfl e3, p⟩
theorem RngAt.fr {rd : Addr} (h : RngAt H rd rg) (f : Fr T S H H') (n : rd ∉ S) : RngAt H' rd rg := by
  obtain ⟨kvs, e, g⟩ := h
  exact ⟨kvs, f.k _ _ n rfl e, fun x => ⟨(g x).1, fun lo hi l => let ⟨t, h1, h2⟩ := (g x).2 lo hi l; ⟨t, h1, f.tk _ _ h2⟩⟩⟩
theorem VisAt.fr (h : VisAt K H A rg env val) (f : Fr T S H H') (n1 : A.vi ∉ S) (n2 : A.vd ∉ S) (n3 : A.rd ∉ S) : VisAt K H' A rg env val := ⟨f.k _ _ n1 rfl h.ins, f.k _ _ n2 rfl h.var, h.rng.fr f n3⟩
theorem FunsAt.fr {fd : Addr} (h : FunsAt H fd fs) (f : Fr T S H H') (n : fd ∉ S) : FunsAt H' fd fs := by
  obtain ⟨kvs, e, g⟩ := h
  exact ⟨kvs, f.k _ _ n rfl e, fun x ps b l => let ⟨t, u, v, h1, h2, h3, h4⟩ := g x ps b l; ⟨t, u, v, h1, f.tk _ _ h2, h3.tk f.tk, h4.tk f.tk⟩⟩
end
/-- an expression that is never reached -/
theorem pe_never {X : Cx} {e : Expr} : PE X e (fun _ _ _ => False) := ⟨fun pins s σ H Q I h => h.elim⟩
theorem met_never {P : Program} {w : World} {K : PySem.W.Frag} {mg : Str → Option Value} {base : Heap} {C m qual : Str} {st : Stmt} {ps : List Str} {k : Nat} {sp : Sp} (F : WO.MetOk K C m qual st) (cl : Cls K (He.ga K C)) (hb : ∀ f fd, FunD K m qual (defArgs st) (defBody st) (defScope st) [] [] f fd → Binds K fd ps []) (no : ∀ vs H Q E, ¬ sp vs H Q E) : C8.Met P w K mg base k (He.ga K C) m sp [] := by
  obtain ⟨f, fd, F, hm⟩ := F.ex
  exact ⟨f, fd, ps, [], cl, hm, ⟨fun vs H Q E h => absurd h (no _ _ _ _), fun _ _ _ _ _ _ _ _ _ _ _ _ _ h => absurd h (no _ _ _ _)⟩, hb f fd F, .nil⟩
/-! ### a dict made of a tuple's items -/
def LoopD (J : It) (g : TG) (tt : TT) (tk tv : TE) (vs : List Nat) (σ : L2.St) (H1 : Hp) (Q : VK) : Prop := ∀ D, H1 D = none → ∃ W : Nat → Nat → Hp → Prop, (∃ m, W 0 m (upd H1 D (.dK []))) ∧ ∀ i m H, W i m H →
  (J.stop i H ∧ Q (.ref D) H) ∨ (J.go i H ∧ ∃ Nx : Hp → Prop, (∀ H', Nx H' → ∃ m', m' < m ∧ W (i + 1) m' H') ∧ ∀ x H', J.yld i H x H' → g x (wipe σ vs) H' fun σ2 H2 => wipe σ2 vs = wipe σ vs ∧ tt σ2 H2 fun b H3 =>
    if b = true then tk σ2 H3 fun y H4 => tv σ2 H4 fun z H5 => ∃ kvs k, y = kV k ∧ H5 D = some (.dK kvs) ∧ kvs.length < sizeLine ∧ Nx (upd H5 D (.dK (putK kvs k z))) else Nx H3)
theorem e_dc {wi : TI} {g : TG} {tt : TT} {tk tv : TE} {vs : List Nat} {σ : L2.St} {H : Hp} {Q : VK} (h : wi σ H fun J H1 => LoopD J g tt tk tv vs σ H1 Q) : tDc wi g tt tk tv vs σ H Q := h
theorem d_accT {K : PySem.W.Frag} {a : Addr} {xs : List V} {g : TG} {tt : TT} {tk tv : TE} {vs : List Nat} {σ : L2.St} {H : Hp} {Q : VK} (hs : SqT K H a xs) (R : Nat → List (Key × V) → Hp → Prop) (mono : ∀ i kvs H H', TK H H' → R i kvs H → R i kvs H') (small : ∀ i kvs H, i ≤ xs.length → R i kvs H → kvs.length < sizeLine) (r0 : R 0 [] H)
    (step : ∀ i x H1 kvs (N : V → V → Hp → Prop) (M : Hp → Prop), xs[i]? = some x → Same H H1 → R i kvs H1 → (∀ k z H3, Same H1 H3 → R (i + 1) (putK kvs k z) H3 → N (kV k) z H3) → (∀ H3, Same H1 H3 → R (i + 1) kvs H3 → M H3) →
      g x (wipe σ vs) H1 fun σ2 H2 => wipe σ2 vs = wipe σ vs ∧ tt σ2 H2 fun b H3 => if b = true then tk σ2 H3 fun y H4 => tv σ2 H4 fun z H5 => N y z H5 else M H3)
    (post : ∀ D H2 kvs, H D = none → Same H H2 → H2 D = some (.dK kvs) → R xs.length kvs H2 → Q (.ref D) H2) : LoopD (Itt K a) g tt tk tv vs σ H Q := by
  intro D nD
  refine dc_tup (xs := xs) (fun i H1 => Same H H1 ∧ ∃ kvs, H1 D = some (.dK kvs) ∧ R i kvs H1) ⟨same_new nD, [], upd_same, mono 0 [] _ _ (same_new nD).tk r0⟩ (fun i H1 _ p => seqT p.1 hs) (fun i x H1 hx p => ?_) (fun H1 ⟨s1, kvs, e1, r1⟩ => post D H1 kvs nD s1 e1 r1)
  obtain ⟨s1, kvs, e1, r1⟩ := p
  have hi := (List.getElem?_eq_some_iff.mp hx).1
  refine step i x H1 kvs _ _ hx s1 r1 (fun k z H3 s3 r3 => ?_) (fun H3 s3 r3 => ⟨s1.trans s3, kvs, s3 _ _ e1, r3⟩)
  have e3 := s3 _ _ e1
  have c : Chg D H3 (upd H3 D (.dK (putK kvs k z))) := chg_upd
  exact ⟨kvs, k, rfl, e3, small i kvs H1 (by omega) r1, c.same (s1.trans s3) nD, _, upd_same, mono _ _ _ _ (fun b xs h => c.at h (ne_of h e3 (fun z => nomatch z))) r3⟩
/-! ### promises -/
section
variable (K : PySem.W.Frag) (T : List (Addr × Str))
def spVal : Sp := fun vs H Q _ => ∃ (v : V) (vd : Addr) (env : Env) (e : EE) (i : Int), vs = [v, .ref vd] ∧ Tp H v e.d ∧ H vd = some (.dK (kvE env)) ∧ e.ev env = some i ∧ Q (.int i) H
def spCmp : Sp := fun vs H Q _ => ∃ (v : V) (vd : Addr) (env : Env) (c : Cm) (b : Bool), vs = [v, .ref vd] ∧ Tp H v c.d ∧ H vd = some (.dK (kvE env)) ∧ c.ev env = some b ∧ Q (.bl b) H
def spTruth : Sp := fun vs H Q _ => ∃ (v : V) (vd : Addr) (env : Env) (c : Cm) (b : Bool), vs = [v, .ref vd] ∧ Tp H v c.d ∧ H vd = some (.dK (kvE env)) ∧ c.ev env = some b ∧ LamX.Tabs T H ∧ ∀ H', LamX.ExtN H H' → LamX.Tabs T H' → Q (.bl b) H'
def spWat (n : Nat) (r : V) : Sp := fun vs H Q _ => ∃ (wt dw pl : Addr) (us : List V), vs = .ref wt :: us ∧ us.length = n ∧ H wt = some (.ins (He.ga K "Watch") dw [("progress", .int 0), ("_place", .ref pl)]) ∧ SqT K H pl [] ∧ Q r H
def spAdd : Sp := fun vs H Q _ => ∃ (R : RA) (v : V) (t : Bool) (d : PyData) (evs : List PyData) (out : Option PyData), vs = [.ref R.rn, v, .bl t] ∧ RunAt K H R evs out ∧ R.rn ≠ R.ev ∧ R.wt ≠ R.ev ∧ Tp H v d ∧ evs.length < 100000 ∧ ∀ H', Fr T [R.ev] H H' → RunAt K H' R (evs ++ [d]) out → Q .non H'
def spNote : Sp := fun vs H Q _ => ∃ (R : RA) (v : V) (d : PyData) (evs : List PyData) (out : Option PyData), vs = [.ref R.rn, v] ∧ RunAt K H R evs out ∧ R.rn ≠ R.ev ∧ R.wt ≠ R.ev ∧ Tp H v d ∧ evs.length < 100000 ∧ ∀ H', Fr T [R.ev] H H' → RunAt K H' R (evs ++ [d]) out → Q .non H'
def spBegin : Sp := fun vs H Q _ => ∃ (R : RA) (sa : Addr) (u : V) (w : V) (row : Int) (r : List V) (evs : List PyData) (out : Option PyData), vs = [.ref R.rn, .ref sa, u] ∧ H sa = some (.tup (w :: .int row :: r)) ∧ RunAt K H R evs out ∧ R.rn ≠ R.ev ∧ R.wt ≠ R.ev ∧ evs.length < 100000 ∧
  ∀ H', Fr T [R.ev] H H' → RunAt K H' R (evs ++ [ev2 "row" row]) out → Q .non H'
def spFault : Sp := fun vs H Q _ => ∃ (R : RA) (sa : Addr) (w : V) (k : Str) (row : Int) (r : List V) (evs : List PyData) (out : Option PyData), vs = [.ref R.rn, .ref sa, .str k] ∧ H sa = some (.tup (w :: .int row :: r)) ∧ RunAt K H R evs out ∧ R.rn ≠ R.ev ∧ R.wt ≠ R.ev ∧ R.wt ≠ R.rn ∧ evs.length < 100000 ∧
  ∀ H', Fr T [R.rn, R.ev] H H' → RunAt K H' R (evs ++ [evF row k]) (some (evF row k)) → Q (.bl false) H'
def spJudge : Sp := fun vs H Q _ => ∃ (R : RA) (A : VA) (sa : Addr) (w u : V) (row : Int) (r : List V) (rg : Rg) (c : Cm) (b : Bool) (st : St), vs = [.ref R.rn, .ref sa, .ref A.vi] ∧ H sa = some (.tup (w :: .int row :: u :: r)) ∧ Tp H u c.d ∧ RunAt K H R st.evs st.out ∧ VisAt K H A rg st.env st.val ∧ Apt R A ∧ c.ev st.env = some b ∧ LamX.Tabs T H ∧ st.evs.length < 100000 ∧
  ∀ H', Fr T [R.ev] H H' → RunAt K H' R (st.note (ev2 (if b = true then "yes" else "no") row)).evs st.out → Q (.bl b) H'
def spEval : Sp := fun vs H Q _ => ∃ (rn : Addr) (A : VA) (sa : Addr) (xs : List V) (u : V) (e : EE) (i : Int) (rg : Rg) (env : Env) (val : Int), vs = [.ref rn, .ref sa, .ref A.vi] ∧ H sa = some (.tup xs) ∧ atI xs (-1) = some u ∧ Tp H u e.d ∧ VisAt K H A rg env val ∧ e.ev env = some i ∧ Q (.int i) H
def spGive : Sp := fun vs H Q _ => ∃ (R : RA) (A : VA) (sa : Addr) (w : V) (row : Int) (x : Str) (r : List V) (v : Int) (rg : Rg) (st st' : St) (ok : Bool), vs = [.ref R.rn, .ref sa, .int v, .ref A.vi] ∧ H sa = some (.tup (w :: .int row :: .str x :: r)) ∧ RunAt K H R st.evs st.out ∧ VisAt K H A rg st.env st.val ∧ Apt R A ∧ put row x rg v st = some (st', ok) ∧ st'.evs.length ≤ 100000 ∧
  ∀ H', Fr T [R.rn, R.ev, A.vd] H H' → RunAt K H' R st'.evs st'.out → VisAt K H' A rg st'.env st'.val → Q (.bl ok) H'
/-- one statement of a kind -/
def spAct (fs : Fs) (rec : Rec) (W : SS → Prop) : Sp := fun vs H Q _ => ∃ (R : RA) (A : VA) (u : V) (rg : Rg) (s : SS) (st st' : St) (ok : Bool), vs = [.ref R.rn, u, .ref A.vi] ∧ W s ∧ Tp H u s.d ∧ RunAt K H R st.evs st.out ∧ VisAt K H A rg st.env st.val ∧ FunsAt H R.fd fs ∧ Apt R A ∧ LamX.Tabs T H ∧ xS fs rec rg s st = some (st', ok) ∧ st'.evs.length ≤ 100000 ∧
  ∀ H', Fr T [R.rn, R.ev, A.vi, A.vd] H H' → RunAt K H' R st'.evs st'.out → VisAt K H' A rg st'.env st'.val → Q (.bl ok) H'
/-- a block -/
def spOut (fs : Fs) (rec : Rec) : Sp := fun vs H Q _ => ∃ (R : RA) (A : VA) (u : V) (rg : Rg) (b : List SS) (st st' : St) (ok : Bool), vs = [.ref R.rn, u, .ref A.vi] ∧ Tp H u (.tuple (SS.ds b)) ∧ RunAt K H R st.evs st.out ∧ VisAt K H A rg st.env st.val ∧ FunsAt H R.fd fs ∧ Apt R A ∧ LamX.Tabs T H ∧ rec rg b st = some (st', ok) ∧ st'.evs.length ≤ 100000 ∧
  ∀ H', Fr T [R.rn, R.ev, A.vi, A.vd] H H' → RunAt K H' R st'.evs st'.out → VisAt K H' A rg st'.env st'.val → Q (.bl ok) H'
end
end WU
namespace WU
open PySem PySem.Spec PyProof.Rows L2 Wy
open WQ (tpL)
/-! ### the rows as they stand -/
theorem tp_cons {H : Hp} {v : V} {x : Str} {d : List PyData} (h : Tp H v (.tuple (.str x :: d))) : ∃ a us, v = .ref a ∧ H a = some (.tup (.str x :: us)) ∧ TpAll H us d := by
  obtain ⟨a, us, rfl, e, t⟩ := tpL h
  cases t with | cons t1 t2 =>
  cases t1
  exact ⟨a, _, rfl, e, t2⟩
theorem tp_int2 {H : Hp} {us : List V} {i : Int} {d : List PyData} (h : TpAll H us (.int i :: d)) : ∃ vs, us = .int i :: vs ∧ TpAll H vs d := by
  cases h with | cons t1 t2 =>
  cases t1
  exact ⟨_, rfl, t2⟩
theorem tp_str2 {H : Hp} {us : List V} {x : Str} {d : List PyData} (h : TpAll H us (.str x :: d)) : ∃ vs, us = .str x :: vs ∧ TpAll H vs d := by
  cases h with | cons t1 t2 =>
  cases t1
  exact ⟨_, rfl, t2⟩
theorem tp_one {H : Hp} {us : List V} {d : PyData} {r : List PyData} (h : TpAll H us (d :: r)) : ∃ v vs, us = v :: vs ∧ Tp H v d ∧ TpAll H vs r := by
  cases h with | cons t1 t2 => exact ⟨_, _, rfl, t1, t2⟩
theorem tp_end {H : Hp} {us : List V} (h : TpAll H us []) : us = [] := by
  cases h
  rfl
section
variable {H : Hp} {u : V} {row : Int} {x f : Str} {e : EE} {c : Cm} {rg : Option (Int × Int)}
theorem let_at (h : Tp H u (SS.let_ row x rg e).d) : ∃ sa v4 v5 v6, u = .ref sa ∧ H sa = some (.tup [.str "let", .int row, .str x, v4, v5, v6]) ∧ Tp H v4 (lohi rg).1 ∧ Tp H v5 (lohi rg).2 ∧ Tp H v6 e.d := by
  rw [SS.d] at h
  obtain ⟨sa, us, rfl, e1, t_1⟩ := tp_cons h
  obtain ⟨us, rfl, t_2⟩ := tp_int2 t_1
  obtain ⟨us, rfl, t_3⟩ := tp_str2 t_2
  obtain ⟨v4, us, rfl, t4, t_4⟩ := tp_one t_3
  obtain ⟨v5, us, rfl, t5, t_5⟩ := tp_one t_4
  obtain ⟨v6, us, rfl, t6, t_6⟩ := tp_one t_5
  obtain rfl := tp_end t_6
  exact ⟨sa, v4, v5, v6, rfl, e1, t4, t5, t6⟩
theorem set_at (h : Tp H u (SS.set row x e).d) : ∃ sa v4, u = .ref sa ∧ H sa = some (.tup [.str "set", .int row, .str x, v4]) ∧ Tp H v4 e.d := by
  rw [SS.d] at h
  obtain ⟨sa, us, rfl, e1, t_1⟩ := tp_cons h
  obtain ⟨us, rfl, t_2⟩ := tp_int2 t_1
  obtain ⟨us, rfl, t_3⟩ := tp_str2 t_2
  obtain ⟨v4, us, rfl, t4, t_4⟩ := tp_one t_3
  obtain rfl := tp_end t_4
  exact ⟨sa, v4, rfl, e1, t4⟩
theorem call_at {as : List EE} (h : Tp H u (SS.call row x f as).d) : ∃ sa v4 vs, u = .ref sa ∧ H sa = some (.tup [.str "call", .int row, .str x, .str f, .ref v4]) ∧ H v4 = some (.tup vs) ∧ TpAll H vs (as.map EE.d) := by
  rw [SS.d] at h
  obtain ⟨sa, us, rfl, e1, t_1⟩ := tp_cons h
  obtain ⟨us, rfl, t_2⟩ := tp_int2 t_1
  obtain ⟨us, rfl, t_3⟩ := tp_str2 t_2
  obtain ⟨us, rfl, t_4⟩ := tp_str2 t_3
  obtain ⟨v4, us, rfl, t4, t_5⟩ := tp_one t_4
  obtain rfl := tp_end t_5
  obtain ⟨a, vs, rfl, e4, t4⟩ := tpL t4
  exact ⟨sa, a, vs, rfl, e1, e4, t4⟩
theorem ite_at {a b : List SS} (h : Tp H u (SS.ite row c a b).d) : ∃ sa v3 v4 v5, u = .ref sa ∧ H sa = some (.tup [.str "if", .int row, v3, v4, v5]) ∧ Tp H v3 c.d ∧ Tp H v4 (.tuple (SS.ds a)) ∧ Tp H v5 (.tuple (SS.ds b)) := by
  rw [SS.d] at h
  obtain ⟨sa, us, rfl, e1, t_1⟩ := tp_cons h
  obtain ⟨us, rfl, t_2⟩ := tp_int2 t_1
  obtain ⟨v3, us, rfl, t3, t_3⟩ := tp_one t_2
  obtain ⟨v4, us, rfl, t4, t_4⟩ := tp_one t_3
  obtain ⟨v5, us, rfl, t5, t_5⟩ := tp_one t_4
  obtain rfl := tp_end t_5
  exact ⟨sa, v3, v4, v5, rfl, e1, t3, t4, t5⟩
theorem loop_at {most : Int} {b : List SS} (h : Tp H u (SS.loop row c most b).d) : ∃ sa v3 v5, u = .ref sa ∧ H sa = some (.tup [.str "while", .int row, v3, .int most, v5]) ∧ Tp H v3 c.d ∧ Tp H v5 (.tuple (SS.ds b)) := by
  rw [SS.d] at h
  obtain ⟨sa, us, rfl, e1, t_1⟩ := tp_cons h
  obtain ⟨us, rfl, t_2⟩ := tp_int2 t_1
  obtain ⟨v3, us, rfl, t3, t_3⟩ := tp_one t_2
  obtain ⟨us, rfl, t_4⟩ := tp_int2 t_3
  obtain ⟨v5, us, rfl, t5, t_5⟩ := tp_one t_4
  obtain rfl := tp_end t_5
  exact ⟨sa, v3, v5, rfl, e1, t3, t5⟩
theorem check_at (h : Tp H u (SS.check row c).d) : ∃ sa v3, u = .ref sa ∧ H sa = some (.tup [.str "check", .int row, v3]) ∧ Tp H v3 c.d := by
  rw [SS.d] at h
  obtain ⟨sa, us, rfl, e1, t_1⟩ := tp_cons h
  obtain ⟨us, rfl, t_2⟩ := tp_int2 t_1
  obtain ⟨v3, us, rfl, t3, t_3⟩ := tp_one t_2
  obtain rfl := tp_end t_3
  exact ⟨sa, v3, rfl, e1, t3⟩
theorem answer_at (h : Tp H u (SS.answer row e).d) : ∃ sa v3, u = .ref sa ∧ H sa = some (.tup [.str "answer", .int row, v3]) ∧ Tp H v3 e.d := by
  rw [SS.d] at h
  obtain ⟨sa, us, rfl, e1, t_1⟩ := tp_cons h
  obtain ⟨us, rfl, t_2⟩ := tp_int2 t_1
  obtain ⟨v3, us, rfl, t3, t_3⟩ := tp_one t_2
  obtain rfl := tp_end t_3
  exact ⟨sa, v3, rfl, e1, t3⟩
theorem ret_at (h : Tp H u (SS.ret row e).d) : ∃ sa v3, u = .ref sa ∧ H sa = some (.tup [.str "return", .int row, v3]) ∧ Tp H v3 e.d := by
  rw [SS.d] at h
  obtain ⟨sa, us, rfl, e1, t_1⟩ := tp_cons h
  obtain ⟨us, rfl, t_2⟩ := tp_int2 t_1
  obtain ⟨v3, us, rfl, t3, t_3⟩ := tp_one t_2
  obtain rfl := tp_end t_3
  exact ⟨sa, v3, rfl, e1, t3⟩
end
theorem note_len (st : St) (d : PyData) : (st.note d).evs.length = st.evs.length + 1 := by
  show (st.evs ++ [d]).length = _
  rw [List.length_append]
  rfl
theorem fault_len (st : St) (row : Int) (k : Str) : (st.fault row k).evs.length = st.evs.length + 1 := note_len st _
theorem zip_kvE : ∀ (ps : List Str) (vs : List Int), ((ps.zip (vs.map V.int)).map fun q => ((.inr q.1 : Key), q.2)) = kvE (ps.zip vs)
  | [], _ => rfl
  | _ :: _, [] => rfl
  | p :: ps, v :: vs => by
    have ih := zip_kvE ps vs
    show ((.inr p : Key), V.int v) :: ((ps.zip (vs.map V.int)).map fun q => ((.inr q.1 : Key), q.2)) = (.inr p, .int v) :: kvE (ps.zip vs)
    rw [ih]
/-- a fresh visit stands apart -/
theorem Apt.new {K : PySem.W.Frag} {H : Hp} {R : RA} {A A' : VA} {evs : List PyData} {out : Option PyData} {fs : Fs} (hA : Apt R A) (hR : RunAt K H R evs out) (hF : FunsAt H R.fd fs) (n1 : H A'.vi = none) (n2 : H A'.vd = none) (n3 : H A'.rd = none) (m1 : A'.vi ≠ A'.vd) (m2 : A'.rd ≠ A'.vi) (m3 : A'.rd ≠ A'.vd) : Apt R A' := by
  obtain ⟨⟨ov, e1, _⟩, ⟨us, e2, _⟩, e3, _⟩ := hR
  obtain ⟨kvs, e4, _⟩ := hF
  exact { n1 := hA.n1, n2 := ne_of_none e1 n1, n3 := ne_of_none e1 n2, n4 := ne_of_none e2 n1, n5 := ne_of_none e2 n2, n6 := m1, w1 := hA.w1, w2 := hA.w2, w3 := ne_of_none e3 n1, w4 := ne_of_none e3 n2, f1 := hA.f1, f2 := hA.f2, f3 := ne_of_none e4 n1, f4 := ne_of_none e4 n2, r1 := (ne_of_none e1 n3).symm, r2 := (ne_of_none e2 n3).symm, r3 := m2, r4 := m3 }
theorem strs_of {H : Hp} : ∀ {zs : List Str} {vs : List V}, TpAll H vs (zs.map PyData.str) → vs = zs.map V.str
  | [], _, h => by cases h; rfl
  | z :: zs, _, h => by
    cases h with
    | cons h1 h2 =>
      cases h1
      rw [strs_of h2]
      rfl
theorem evAll_len {env : Env} : ∀ {as : List EE} {vs : List Int}, evAll env as = some vs → as.length = vs.length
  | [], vs, h => by cases h; rfl
  | e :: r, vs, h => by
    unfold evAll at h
    split at h
    · rename_i v ws e1 e2
      cases h
      rw [List.length_cons, List.length_cons, evAll_len e2]
    · cases h
theorem evAll_get {env : Env} : ∀ {as : List EE} {vs : List Int} {j : Nat} {e : EE}, evAll env as = some vs → as[j]? = some e → ∃ v, e.ev env = some v ∧ vs[j]? = some v
  | [], vs, j, e, h, g => by cases g
  | a :: r, vs, j, e, h, g => by
    unfold evAll at h
    split at h
    · rename_i v ws e1 e2
      cases h
      cases j with
      | zero =>
        cases g
        exact ⟨v, e1, rfl⟩
      | succ j =>
        have g2 : r[j]? = some e := g
        exact evAll_get (vs := ws) e2 g2
    · cases h
/-! ### which def carries a row out -/
def isAsg : SS → Prop
  | .let_ .. => True
  | .set .. => True
  | _ => False
def isCall : SS → Prop
  | .call .. => True
  | _ => False
def isIte : SS → Prop
  | .ite .. => True
  | _ => False
def isLoop : SS → Prop
  | .loop .. => True
  | _ => False
def isCheck : SS → Prop
  | .check .. => True
  | _ => False
def isAns : SS → Prop
  | .answer .. => True
  | _ => False
def isRet : SS → Prop
  | .ret .. => True
  | _ => False
end WU
namespace WU
open PySem PySem.Spec PyProof.Rows L2 Wy
/-! ### a property -/
structure PrC (P : Program) (w : World) (K : PySem.W.Frag) (mg : Str → Option Value) (base : Heap) (k : Nat) (C : Addr) (f : Str) (sp : Sp) : Prop where
  ex : ∃ p g fd ps, PropOf K C f p g ∧ FnOk P w K mg base CX0 k g fd ps sp ∧ Binds K fd ps [] ∧ Cls K C
theorem prc_of {P : Program} {w : World} {K : PySem.W.Frag} {mg : Str → Option Value} {base : Heap} {C p g : Addr} {f qual : Str} {st : Stmt} {N ps : List Str} {k : Nat} {sp : Sp} (F : PropOf K C f p g ∧ ∃ fd, FunD K f qual (defArgs st) (defBody st) (defScope st) [] [] g fd) (cl : Cls K C) (S : FnScope N ps (defScope st))
    (hb : ∀ g fd, FunD K f qual (defArgs st) (defBody st) (defScope st) [] [] g fd → Binds K fd ps []) (len : ∀ vs H Q E, sp vs H Q E → vs.length = ps.length)
    (body : ∀ (f : Addr) (cdv : Value) (A : Around) (outer : List PySem.Env) (s : Shared) (H : Hp) (vs : List V) (Q : VK) (E : XK), Room k (A.deeper (envOfC qual (defScope st) s.heap.objs.size f cdv)) → sp vs H Q E →
      ∃ t, PSs (cxOf CX0 P w K mg base N qual (defScope st) f cdv A outer s H E).nox (defBody st) t ∧ t { nx := fun _ H' => Q .non H', rt := Q } (start N vs) H) : PrC P w K mg base (k + 1) C f sp := by
  obtain ⟨hp, fd, F⟩ := F
  refine ⟨p, g, fd, ps, hp, F.ok S len fun cdv A outer s H vs Q E hr h => ?_, hb g fd F, cl⟩
  obtain ⟨t, h1, h2⟩ := body g cdv A outer s H vs Q E hr h
  exact ⟨t, PSs.nox h1, h2⟩
theorem pe_pr {X : Cx} {C : Addr} {f : Str} {k j : Nat} {sp : Sp} {e : Expr} {te : TE} {pos : Pos} (c : PrC X.prog X.w X.K X.mg X.base k C f sp) (hr : Room j X.A) (hk : k + 1 ≤ j) (he : PE X e te) (hab : attributeBase e f X.env (eval e X.env) = eval e X.env := by rfl) : PE X (.Attribute e f pos) (tProp C sp [] C8.E0 te) := by
  obtain ⟨p, g, fd, ps, hp, F, b, cl⟩ := c.ex
  exact pe_prop he cl hp F (hr.mono hk) b .nil pass0 hab
def KProp (C : Addr) (sp : Sp) (E : XK) (x : V) (H : Hp) (Q : VK) : Prop := ∃ a dx fs, x = .ref a ∧ H a = some (.ins C dx fs) ∧ sp (.ref a :: []) H Q E
theorem e_prop {C : Addr} {sp : Sp} {E : XK} {te : TE} {σ : L2.St} {H : Hp} {Q : VK} (h : te σ H fun x H1 => KProp C sp E x H1 Q) : tProp C sp [] E te σ H Q := h
theorem k_prop {C a dx : Addr} {fs : List (Str × V)} {sp : Sp} {E : XK} {H : Hp} {Q : VK} (e : H a = some (.ins C dx fs)) (h : sp [.ref a] H Q E) : KProp C sp E (.ref a) H Q := ⟨a, dx, fs, rfl, e, h⟩
theorem pe_callCK {K : PySem.W.Frag} {X : Cx} {id : String} {x : Str} {e : Expr} {es : List Expr} {p pos : Pos} {t : TA} {r : PySem.W.Frag → List V → Hp → VK → Prop} (hc : ∀ X : Cx, X.calm = true → CallR X (.builtin id) (r X.K)) (hg : Gl X x) (hm : X.mg x = none) (hv : bootBuiltins x = some (.builtin id)) (ha : PA X (e :: es) t) (hK : X.K = K := by rfl) (hcalm : X.calm = true := by rfl) (hn : x ≠ "__name__" := by decide) (hdb : (x == ("__debug__" : Str)) = false := by decide)
    (he : starEach (e :: es) X.env = (false, eval e X.env) :: starEach es X.env := by rfl) (hpl : (backTo pos (starEach es X.env)).any (·.1) = false := by rfl) : PE X (.Call (.Name x p) (e :: es) [] pos) (tCB (r K) t) := hK ▸ WN.pe_callC hc hg hm hv ha hcalm hn hdb he hpl
/-! ### a list of two clauses, the inner one over a range of one -/
def LoopC2 (J : It) (g : TG) (tt : TT) (wi1 : TI) (g1 : TG) (tt1 : TT) (te : TE) (vs vs1 : List Nat) (σ : L2.St) (H1 : Hp) (Q : VK) : Prop := ∀ D, H1 D = none → ∃ W : Nat → Nat → Hp → Prop, (∃ m, W 0 m (upd H1 D (.lst []))) ∧ ∀ i m H, W i m H →
  (J.stop i H ∧ Q (.ref D) H) ∨ (J.go i H ∧ ∃ Nx : Hp → Prop, (∀ H', Nx H' → ∃ m', m' < m ∧ W (i + 1) m' H') ∧ ∀ x H', J.yld i H x H' → g x (wipe σ vs) H' fun σ2 H2 => wipe σ2 vs = wipe σ vs ∧ tt σ2 H2 fun b H3 =>
    if b = true then wi1 σ2 H3 fun J1 H4 => ∃ W1 : Nat → Nat → Hp → Prop, (∃ m, W1 0 m H4) ∧ ∀ j k H, W1 j k H →
      (J1.stop j H ∧ Nx H) ∨ (J1.go j H ∧ ∃ Nx1 : Hp → Prop, (∀ H', Nx1 H' → ∃ k', k' < k ∧ W1 (j + 1) k' H') ∧ ∀ x H', J1.yld j H x H' → g1 x (wipe σ2 vs1) H' fun σ3 H5 => wipe σ3 vs1 = wipe σ2 vs1 ∧ tt1 σ3 H5 fun b H6 =>
        if b = true then te σ3 H6 fun y H7 => ∃ acc, H7 D = some (.lst acc) ∧ acc.length < sizeLine ∧ Nx1 (upd H7 D (.lst (acc ++ [y]))) else Nx1 H6)
    else Nx H3)
theorem e_lc2 {wi : TI} {g : TG} {tt : TT} {wi1 : TI} {g1 : TG} {tt1 : TT} {te : TE} {vs vs1 : List Nat} {σ : L2.St} {H : Hp} {Q : VK} (h : wi σ H fun J H1 => LoopC2 J g tt wi1 g1 tt1 te vs vs1 σ H1 Q) : tLc2 wi g tt wi1 g1 tt1 te vs vs1 σ H Q := h
theorem c2_one {K : PySem.W.Frag} {a : Addr} {xs : List V} {g g1 : TG} {te : TE} {wi1 : TI} {vs vs1 : List Nat} {σ : L2.St} {H : Hp} {Q : VK} (hs : SqT K H a xs) (R : Nat → List V → Hp → Prop) (mono : ∀ i acc H H', TK H H' → R i acc H → R i acc H') (small : ∀ i acc H, i ≤ xs.length → R i acc H → acc.length < sizeLine) (r0 : R 0 [] H)
    (step : ∀ i x H1 acc (N : VK) (M M' : Hp → Prop) (C : L2.St → It → Hp → Prop), xs[i]? = some x → Same H H1 → R i acc H1 → (∀ y H3, Same H1 H3 → R (i + 1) (acc ++ [y]) H3 → N y H3) →
      (∀ σ2 lo H4, Same H1 H4 → (g1 (.int (lo + ((0 : Nat) : Int))) (wipe σ2 vs1) H4 fun σ3 H5 => wipe σ3 vs1 = wipe σ2 vs1 ∧ tYes σ3 H5 fun b H6 => if b = true then te σ3 H6 N else M H6) → C σ2 (Itr lo 1) H4) →
      g x (wipe σ vs) H1 fun σ2 H2 => wipe σ2 vs = wipe σ vs ∧ tYes σ2 H2 fun b H3 => if b = true then wi1 σ2 H3 (C σ2) else M' H3)
    (post : ∀ D H2 ys, H D = none → Same H H2 → H2 D = some (.lst ys) → R xs.length ys H2 → Q (.ref D) H2) : LoopC2 (Itt K a) g tYes wi1 g1 tYes te vs vs1 σ H Q := by
  intro D nD
  refine ⟨fun i m H1 => m = xs.length - i ∧ i ≤ xs.length ∧ Same H H1 ∧ ∃ acc, H1 D = some (.lst acc) ∧ R i acc H1, ⟨xs.length, by simp, Nat.zero_le _, same_new nD, [], upd_same, mono 0 [] _ _ (same_new nD).tk r0⟩, ?_⟩
  rintro i m H1 ⟨rfl, hi, s1, acc, e1, r1⟩
  by_cases hlt : i < xs.length
  · refine .inr ⟨⟨xs, xs[i], seqT s1 hs, by simp [hlt]⟩, fun H3 => Same H H3 ∧ ∃ acc, H3 D = some (.lst acc) ∧ R (i + 1) acc H3, fun H' p => ⟨xs.length - (i + 1), by omega, rfl, hlt, p⟩, fun x H' y => ?_⟩
    obtain ⟨e, y⟩ := y
    subst e
    have hx := y xs (seqT s1 hs)
    let Nx : Hp → Prop := fun H3 => Same H H3 ∧ ∃ acc, H3 D = some (.lst acc) ∧ R (i + 1) acc H3
    let N : VK := fun y H7 => ∃ acc, H7 D = some (.lst acc) ∧ acc.length < sizeLine ∧ Nx (upd H7 D (.lst (acc ++ [y])))
    refine step i x _ acc N Nx Nx (fun σ2 J1 H4 => ∃ W1 : Nat → Nat → Hp → Prop, (∃ m, W1 0 m H4) ∧ ∀ j k H, W1 j k H →
      (J1.stop j H ∧ Nx H) ∨ (J1.go j H ∧ ∃ Nx1 : Hp → Prop, (∀ H', Nx1 H' → ∃ k', k' < k ∧ W1 (j + 1) k' H') ∧ ∀ x H', J1.yld j H x H' → g1 x (wipe σ2 vs1) H' fun σ3 H5 => wipe σ3 vs1 = wipe σ2 vs1 ∧ tYes σ3 H5 fun b H6 =>
        if b = true then te σ3 H6 fun y H7 => ∃ acc, H7 D = some (.lst acc) ∧ acc.length < sizeLine ∧ Nx1 (upd H7 D (.lst (acc ++ [y]))) else Nx1 H6)) hx s1 r1 (fun y H3 s3 r3 => ?_) (fun σ2 lo H4 s4 hh => ?_)
    · have e3 := s3 _ _ e1
      have c : Chg D H3 (upd H3 D (.lst (acc ++ [y]))) := chg_upd
      exact ⟨acc, e3, small i acc _ hi r1, c.same (s1.trans s3) nD, _, upd_same, mono _ _ _ _ (c.tk e3) r3⟩
    · refine ⟨fun j k H5 => k = 1 - j ∧ j ≤ 1 ∧ (j = 0 → H5 = H4) ∧ (j = 1 → Same H H5 ∧ ∃ acc, H5 D = some (.lst acc) ∧ R (i + 1) acc H5), ⟨1, rfl, Nat.zero_le _, fun _ => rfl, fun z => (nomatch z)⟩, ?_⟩
      rintro j k H5 ⟨rfl, hj, q0, q1⟩
      rcases Nat.lt_or_ge j 1 with hj1 | hj1
      · obtain rfl : j = 0 := by omega
        obtain rfl := q0 rfl
        refine .inr ⟨Nat.zero_lt_one, Nx, fun H6 p => ⟨0, by omega, rfl, Nat.le_refl _, fun z => (nomatch z), fun _ => p⟩, fun x H6 y => ?_⟩
        obtain ⟨e, y⟩ := y
        subst e y
        exact hh
      · exact .inl ⟨hj1, q1 (by omega)⟩
  · have e : i = xs.length := by omega
    subst e
    exact .inl ⟨⟨xs, seqT s1 hs, Nat.le_refl _⟩, post D H1 acc nD s1 e1 r1⟩
end WU
/-! WF: own exception classes over ValueError: raised, let out of a def, caught; isinstance of what was caught. -/
namespace WF
open PySem PySem.Spec PyProof.Rows L2 Wy
abbrev bmVE : List Value := [.type "ValueError", .type "Exception", .type "BaseException", .type "object"]
/-- an own exception class over ValueError without an own __init__ -/
structure ExK (K : PySem.W.Frag) (mg : Str → Option Value) (x : Str) : Prop where
  gC : mg x = some (.ref (He.ga K x))
  xP : PySem.W.excIn K (He.ga K x) bmVE "ValueError.__new__" = true
  kP : PySem.W.keepIn K (.ref (He.ga K x)) = true
  bP : PySem.W.subIn K (.ref (He.ga K x)) (.type "BaseException") = some true
  tP : PySem.W.typeIn K (.ref (He.ga K x)) = some (.type "type")
  eP : ExcC K (He.ga K x)
def b1 (K : PySem.W.Frag) (C : Addr) : Bool := PySem.W.excIn K C bmVE "ValueError.__new__" && (PySem.W.keepIn K (.ref C) && (decide (PySem.W.subIn K (.ref C) (.type "BaseException") = some true) && decide (PySem.W.typeIn K (.ref C) = some (.type "type"))))
def b2 (K : PySem.W.Frag) (C : Addr) : Bool := decide (PySem.W.findIn K (.ref C) "__getattribute__" = some (some (.builtin "BaseException.__getattribute__"))) && (decide (PySem.W.findIn K (.ref C) "__getattr__" = some none) && (PySem.W.hasDictIn K C && (decide (PySem.W.findIn K (.ref C) "__class__" = some (some (.builtin "object.__class__"))) && (decide (PySem.W.specialIn K (.builtin "object.__class__") "__get__" = some (some (.builtin "getset_descriptor.__get__"))) && (decide (PySem.W.takesIn K (.builtin "object.__class__") = some true) && decide (PySem.W.mroIn K C (.type "object") = some true))))))
def exB (K : PySem.W.Frag) (x : Str) : Bool := b1 K (He.ga K x) && b2 K (He.ga K x)
theorem exB_ok {K : PySem.W.Frag} {mg : Str → Option Value} {x : Str} (g : mg x = some (.ref (He.ga K x))) (h : exB K x = true) : ExK K mg x := by
  obtain ⟨h1, h2⟩ := He.ba h
  obtain ⟨a1, h1⟩ := He.ba h1
  obtain ⟨a2, h1⟩ := He.ba h1
  obtain ⟨a3, a4⟩ := He.ba h1
  obtain ⟨c1, h2⟩ := He.ba h2
  obtain ⟨c2, h2⟩ := He.ba h2
  obtain ⟨c3, h2⟩ := He.ba h2
  obtain ⟨c4, h2⟩ := He.ba h2
  obtain ⟨c5, h2⟩ := He.ba h2
  obtain ⟨c6, c7⟩ := He.ba h2
  exact ⟨g, a1, a2, of_decide_eq_true a3, of_decide_eq_true a4, ⟨of_decide_eq_true c1, of_decide_eq_true c2, of_decide_eq_true a3, c3, of_decide_eq_true c4, of_decide_eq_true c5, of_decide_eq_true c6, of_decide_eq_true c7⟩⟩
/-- how two classes stand to each other -/
structure Ups (K : PySem.W.Frag) (D C : Value) (b : Bool) : Prop where
  m : PySem.W.exmOne K D C = some b
  i : PySem.W.kitOne K D C = some b
def upsB (K : PySem.W.Frag) (D C : Value) (b : Bool) : Bool := decide (PySem.W.exmOne K D C = some b) && decide (PySem.W.kitOne K D C = some b)
theorem upsB_ok {K : PySem.W.Frag} {D C : Value} {b : Bool} (h : upsB K D C b = true) : Ups K D C b := by
  obtain ⟨h1, h2⟩ := He.ba h
  exact ⟨of_decide_eq_true h1, of_decide_eq_true h2⟩
/-! ### a def that may raise -/
structure CalX (P : Program) (w : World) (K : PySem.W.Frag) (mg : Str → Option Value) (base : Heap) (k : Nat) (x : Str) (sp : Sp) (dvs : List V) : Prop where
  ex : ∃ (f : Addr) (fd : FuncData) (ps : List Str) (ds : List Value), FnOk P w K mg base (L2.CX P w) k f fd ps sp ∧ mg x = some (.ref f) ∧ PySem.W.keepIn K (.ref f) = true ∧ Binds K fd ps ds ∧ Vals dvs ds
def tCallX (sp : Sp) (dvs : List V) (W : WX) (t : TA) : TE := fun σ H Q => t σ H fun vs H1 => sp (vs ++ dvs) H1 Q fun cls d H2 => W cls d σ H2
section
variable {X : Cx} {k j : Nat} {x : Str} {sp : Sp} {dvs : List V} {p pos : Pos} {e : Expr} {es : List Expr} {t : TA}
theorem pe_cX {W : WX} (c : CalX X.prog X.w X.K X.mg X.base k x sp dvs) (tk : Takes X W) (hr : Room j X.A) (hk : k ≤ j) (hg : Gl X x) (ha : PA X (e :: es) t)
    (hdb : (x == ("__debug__" : Str)) = false := by decide) (he : starEach (e :: es) X.env = (false, eval e X.env) :: starEach es X.env := by rfl) (hpl : (backTo pos (starEach es X.env)).any (·.1) = false := by rfl) :
    PE X (.Call (.Name x p) (e :: es) [] pos) (tCallX sp dvs W t) := by
  obtain ⟨f, fd, ps, ds, F, hm, kp, b, d⟩ := c.ex
  refine ⟨fun pins s σ H Q I h => ?_⟩
  refine wpAny_Call_Name_kw (ld_glob I hg hm ?_ hdb)
  refine PySem.W.callWith_K (h₀ := X.base) I.ok.mod.kin kp (thn (ha.run pos pins s σ H _ I h) fun us s1 ⟨vs, H1, I1, r, q⟩ => ⟨I1.kIn, ?_⟩) he hpl
  have r2 : Vals (vs ++ dvs) (us ++ ds) := r.append d
  have hl : (us ++ ds).length = ps.length := by rw [← r2.length]; exact F.len _ _ _ _ q
  refine wpAny_call (codeAny_mono (F.run X.A X.stack s1 H1 ⟨us, []⟩ (us ++ ds) (vs ++ dvs) Q _ (hr.mono hk) I1.env0 (b s1 us I1.kIn hl) r2 q) fun r s' hq => ?_)
  cases r with
  | error e => exact passAt tk σ pins H1 s1 e s' I1 hq
  | ok fl =>
    cases fl with
    | ret u => exact I1.after hq
    | next => exact False.elim hq
    | brk => exact False.elim hq
    | cont => exact False.elim hq
end
theorem w_cX {sp : Sp} {dvs : List V} {W : WX} {t : TA} {σ : L2.St} {H : Hp} {Q : VK} (h : t σ H fun vs H1 => sp (vs ++ dvs) H1 Q fun cls d H2 => W cls d σ H2) : tCallX sp dvs W t σ H Q := h
theorem takes0 {X : Cx} : Takes X (fun _ _ _ _ => False) := fun _ _ ⟨_, _, _, _, _, _, _, _, _, _, _, _, _, _, _, _, w⟩ => w.elim
structure MetX (P : Program) (w : World) (K : PySem.W.Frag) (mg : Str → Option Value) (base : Heap) (k : Nat) (C : Addr) (m : Str) (sp : Sp) (dvs : List V) : Prop where
  ex : ∃ (f : Addr) (fd : FuncData) (ps : List Str) (ds : List Value), Cls K C ∧ Meth K C m f ∧ FnOk P w K mg base (L2.CX P w) k f fd ps sp ∧ Binds K fd ps ds ∧ Vals dvs ds
section
variable {X : Cx} {k j : Nat} {x m : Str} {C : Addr} {sp : Sp} {dvs : List V} {p pos apos : Pos} {o e : Expr} {es : List Expr} {t : TA} {ta : TE} {E : XK}
/-- a call whose exceptions are this def's own -/
theorem pe_cR (c : CalX X.prog X.w X.K X.mg X.base k x sp dvs) (tk : Takes X (fun cls d _ H => E cls d H)) (hr : Room j X.A) (hk : k ≤ j) (hg : Gl X x) (ha : PA X (e :: es) t)
    (hdb : (x == ("__debug__" : Str)) = false := by decide) (he : starEach (e :: es) X.env = (false, eval e X.env) :: starEach es X.env := by rfl) (hpl : (backTo pos (starEach es X.env)).any (·.1) = false := by rfl) : PE X (.Call (.Name x p) (e :: es) [] pos) (tCall sp dvs E t) := by
  obtain ⟨f, fd, ps, ds, F, hm, kp, b, d⟩ := c.ex
  exact pe_call F (hr.mono hk) hg hm kp b d (passes_call tk fun _ _ _ _ h => h) ha hdb he hpl
theorem pe_mtR {pl : Sem Bool} (c : MetX X.prog X.w X.K X.mg X.base k C m sp dvs) (tk : Takes X (fun cls d _ H => E cls d H)) (hr : Room j X.A) (hk : k ≤ j) (he : PE X o ta) (ha : PA X (e :: es) t)
    (hst : starEach (e :: es) X.env = (false, eval e X.env) :: starEach es X.env := by rfl) (hpl : (backTo pos (starEach es X.env)).any (·.1) = false := by rfl)
    (ht : eval (.Call (.Attribute o m apos) (e :: es) [] pos) X.env = (do let ov ← eval o X.env; standAt apos.atName; let (f, first) ← holding [ov] (getMethod ov m pl); callWith pos f first (backTo pos (starEach (e :: es) X.env)) (backToKw pos (keywordEach [] X.env))) := by rfl) : PE X (.Call (.Attribute o m apos) (e :: es) [] pos) (tMeth C m sp dvs E ta t) := by
  obtain ⟨f, fd, ps, ds, hc, hm, F, b, d⟩ := c.ex
  exact pe_meth (pl := pl) he hc hm F (hr.mono hk) b d (passes_call tk fun _ _ _ _ h => h) ha hst hpl ht
end
section
variable {P : Program} {w : World} {K : PySem.W.Frag} {mg : Str → Option Value} {base : Heap} {x m qual C : Str} {st : Stmt} {N ps : List Str} {k : Nat} {sp : Sp}
theorem cal_ofX (F : DefOk K mg x st) (S : FnScope N ps (defScope st)) (hb : ∀ f fd, FunD K x x (defArgs st) (defBody st) (defScope st) [] [] f fd → Binds K fd ps []) (len : ∀ vs H Q E, sp vs H Q E → vs.length = ps.length)
    (body : ∀ (f : Addr) (cdv : Value) (A : Around) (outer : List PySem.Env) (s : Shared) (H : Hp) (vs : List V) (Q : VK) (E : XK), Room k (A.deeper (envOfC x (defScope st) s.heap.objs.size f cdv)) → sp vs H Q E →
      ∃ t, PSs (cxOf (L2.CX P w) P w K mg base N x (defScope st) f cdv A outer s H E) (defBody st) t ∧ t { nx := fun _ H' => Q .non H', rt := Q } (start N vs) H) : CalX P w K mg base (k + 1) x sp [] := by
  obtain ⟨f, fd, F, hm⟩ := F.ex
  exact ⟨f, fd, ps, [], F.ok S len fun cdv A outer s H vs Q E hr h => body f cdv A outer s H vs Q E hr h, hm, F.kp, hb f fd F, .nil⟩
theorem met_ofX (F : WO.MetOk K C m qual st) (cl : Cls K (He.ga K C)) (S : FnScope N ps (defScope st)) (hb : ∀ f fd, FunD K m qual (defArgs st) (defBody st) (defScope st) [] [] f fd → Binds K fd ps []) (len : ∀ vs H Q E, sp vs H Q E → vs.length = ps.length)
    (body : ∀ (f : Addr) (cdv : Value) (A : Around) (outer : List PySem.Env) (s : Shared) (H : Hp) (vs : List V) (Q : VK) (E : XK), Room k (A.deeper (envOfC qual (defScope st) s.heap.objs.size f cdv)) → sp vs H Q E →
      ∃ t, PSs (cxOf (L2.CX P w) P w K mg base N qual (defScope st) f cdv A outer s H E) (defBody st) t ∧ t { nx := fun _ H' => Q .non H', rt := Q } (start N vs) H) : MetX P w K mg base (k + 1) (He.ga K C) m sp [] := by
  obtain ⟨f, fd, F, hm⟩ := F.ex
  exact ⟨f, fd, ps, [], cl, hm, F.ok S len fun cdv A outer s H vs Q E hr h => body f cdv A outer s H vs Q E hr h, hb f fd F, .nil⟩
end
/-! ### isinstance of what was caught -/
def rIsX (K : PySem.W.Frag) (a : Addr) (cls : Value) (d : Option Addr) : List V → Hp → VK → Prop := fun xs H Q => ∃ (D : Addr) (c : V) (cv : Value) (b : Bool), cls = .ref D ∧ d = none ∧ ExcC K D ∧ xs = [.ref a, c] ∧ (∀ u, RelV c u → u = cv) ∧ PySem.W.kitOne K (.ref D) cv = some b ∧ Q (.bl b) H
theorem call_isX {X : Cx} {a : Addr} {cls : Value} {d : Option Addr} {oe : Obj} {pn : List (Addr × Obj)} (hz : Zc cls d oe) (hf : ∃ vs, oe.data = .fields vs) : CallR (X.suite a ((a, oe) :: pn)) (.builtin "isinstance") (rIsX X.K a cls d) := by
  intro pins s σ H xs us Q I r h
  obtain ⟨D, c, cv, b, rfl, rfl, C, rfl, h1, h2, q⟩ := h
  exact call_isE C hz hf pins s σ H _ us Q I r ⟨c, cv, b, rfl, h1, h2, q⟩
section
variable {K : PySem.W.Frag} {H : Hp} {Q : VK}
theorem b_isX {mg : Str → Option Value} {x y : Str} {a : Addr} {b : Bool} (E : ExK K mg x) (u : Ups K (.ref (He.ga K x)) (.ref (He.ga K y)) b) (h : Q (.bl b) H) : rIsX K a (.ref (He.ga K x)) none [.ref a, .ref (He.ga K y)] H Q := ⟨_, _, _, b, rfl, rfl, E.eP, rfl, fun _ r => by cases r; rfl, u.i, h⟩
theorem b_isXT {mg : Str → Option Value} {x : Str} {T : String} {a : Addr} {b : Bool} (E : ExK K mg x) (u : Ups K (.ref (He.ga K x)) (.type T) b) (h : Q (.bl b) H) : rIsX K a (.ref (He.ga K x)) none [.ref a, .ty T] H Q := ⟨_, _, _, b, rfl, rfl, E.eP, rfl, fun _ r => by cases r; rfl, u.i, h⟩
end
end WF
namespace WM
open PySem PySem.Spec PyProof.Rows L2 Wy
abbrev LONG : List V := [.str "<=", .str ">=", .str "==", .str "!="]
abbrev RESV : List V := [.str "input", .str "from", .str "to", .str "list", .str "def", .str "let", .str "if", .str "else", .str "end", .str "while", .str "at", .str "most", .str "check", .str "refuse", .str "answer", .str "return", .str "skip", .str "and", .str "or", .str "not", .str "row", .str "yes", .str "no", .str "turn", .str "fault", .str "when", .str "then"]
/-! ### the mathematics -/
abbrev LET : Str := "abcdefghijklmnopqrstuvwxyz"
abbrev DIG : Str := "0123456789"
abbrev SHO : Str := "<>=+-()[],:"
abbrev tl (z : Str) : List Nat := z.cps.toList
/-- two signs at i that are one word -/
def pairAt (z : Str) (i : Nat) : Bool := inV (.str (cutS z (some (i : Int)) (some ((i + 2 : Nat) : Int)))) LONG
theorem pair_len {z : Str} {i : Nat} (h : pairAt z i = true) : i + 2 ≤ z.length := by
  unfold pairAt inV at h
  have hl := cutS_len2 z i
  have h2 : (cutS z (some (i : Int)) (some ((i + 2 : Nat) : Int))).length = 2 := by
    simp only [List.any_cons, List.any_nil, Bool.or_false, Bool.or_eq_true] at h
    have key : ∀ w : Str, w.length = 2 → eqV (.str w) (.str (cutS z (some (i : Int)) (some ((i + 2 : Nat) : Int)))) = true → (cutS z (some (i : Int)) (some ((i + 2 : Nat) : Int))).length = 2 := fun w hw e => by
      have e2 : (w == cutS z (some (i : Int)) (some ((i + 2 : Nat) : Int))) = true := e
      rw [← eq_of_beq e2]
      exact hw
    rcases h with h | h | h | h
    · exact key _ (by decide +kernel) h
    · exact key _ (by decide +kernel) h
    · exact key _ (by decide +kernel) h
    · exact key _ (by decide +kernel) h
  omega
/-- the place behind the word that begins at i with the sign c -/
def wordEnd (z : Str) (i c : Nat) : Nat :=
  if c ∈ tl LET then runEnd (tl z) (tl LET) i else if c ∈ tl DIG then runEnd (tl z) (tl DIG) i else if pairAt z i = true then i + 2 else if c ∈ tl SHO then i + 1 else i
theorem wordEnd_ge (z : Str) (i c : Nat) : i ≤ wordEnd z i c := by
  unfold wordEnd
  split
  · exact runEnd_ge _ _ _
  · split
    · exact runEnd_ge _ _ _
    · split
      · omega
      · split <;> omega
theorem wordEnd_le {z : Str} {i c : Nat} (e : (tl z)[i]? = some c) : wordEnd z i c ≤ z.length := by
  have hi : i < (tl z).length := (List.getElem?_eq_some_iff.mp e).1
  have hl : z.length = (tl z).length := str_len z
  unfold wordEnd
  split
  · rw [hl]
    exact runEnd_le (Nat.le_of_lt hi)
  · split
    · rw [hl]
      exact runEnd_le (Nat.le_of_lt hi)
    · split
      · rename_i h
        exact pair_len h
      · split <;> omega
def scan (z : Str) : Nat → Nat → List Str → Option (List Str)
  | 0, _, acc => some acc
  | n + 1, i, acc => match (tl z)[i]? with
    | none => some acc
    | some c => if c = 32 then scan z n (i + 1) acc else if wordEnd z i c = i then none else scan z n (wordEnd z i c) (acc ++ [cutS z (some (i : Int)) (some (wordEnd z i c : Int))])
theorem scan_out {z : Str} {n i : Nat} {acc : List Str} (h : z.length ≤ i) : scan z n i acc = some acc := by
  cases n with
  | zero => rfl
  | succ n =>
    have e : (tl z)[i]? = none := List.getElem?_eq_none_iff.mpr (by rw [str_len] at h; exact h)
    unfold scan
    rw [e]
theorem scan_fuel {z : Str} : ∀ {n m i : Nat} {acc : List Str}, z.length - i ≤ n → z.length - i ≤ m → scan z n i acc = scan z m i acc
  | 0, m, i, acc, h, _ => by
    rw [scan_out (n := m) (by omega)]
    rfl
  | n + 1, 0, i, acc, _, h => by
    rw [scan_out (n := n + 1) (by omega)]
    rfl
  | n + 1, m + 1, i, acc, h1, h2 => by
    unfold scan
    cases e : (tl z)[i]? with
    | none => rfl
    | some c =>
      have hi : i < z.length := by
        rw [str_len]
        exact (List.getElem?_eq_some_iff.mp e).1
      show (if c = 32 then _ else if _ then _ else _) = (if c = 32 then _ else if _ then _ else _)
      split
      · exact scan_fuel (by omega) (by omega)
      · split
        · rfl
        · have g := wordEnd_ge z i c
          exact scan_fuel (by omega) (by omega)
/-- the words from i on, behind those found -/
def from_ (z : Str) (i : Nat) (acc : List Str) : Option (List Str) := scan z (z.length - i) i acc
theorem from_out {z : Str} {i : Nat} {acc : List Str} (h : z.length ≤ i) : from_ z i acc = some acc := scan_out h
theorem from_step {z : Str} {i c : Nat} {acc : List Str} (e : (tl z)[i]? = some c) :
    from_ z i acc = if c = 32 then from_ z (i + 1) acc else if wordEnd z i c = i then none else from_ z (wordEnd z i c) (acc ++ [cutS z (some (i : Int)) (some (wordEnd z i c : Int))]) := by
  have hi : i < z.length := by
    rw [str_len]
    exact (List.getElem?_eq_some_iff.mp e).1
  unfold from_
  obtain ⟨n, hn⟩ : ∃ n, z.length - i = n + 1 := ⟨z.length - i - 1, by omega⟩
  rw [hn]
  show (match (tl z)[i]? with | none => some acc | some c => if c = 32 then scan z n (i + 1) acc else if wordEnd z i c = i then none else scan z n (wordEnd z i c) (acc ++ [cutS z (some (i : Int)) (some (wordEnd z i c : Int))])) = _
  rw [e]
  have g := wordEnd_ge z i c
  show (if c = 32 then _ else if _ then _ else _) = (if c = 32 then _ else if _ then _ else _)
  split
  · exact scan_fuel (by omega) (by omega)
  · split
    · rfl
    · exact scan_fuel (by omega) (by omega)
def wordsW (z : Str) : Option (List Str) := from_ z 0 []
def nameW (z : Str) : Bool := decide (1 ≤ z.length) && decide (z.length ≤ 12) && !inV (.str z) RESV && decide (∀ c ∈ tl z, c ∈ tl LET)
def numberW (z : Str) : Bool := decide (1 ≤ z.length) && decide (z.length ≤ 10) && (decide (∀ c ∈ tl z, c ∈ tl DIG)) && (decide (z.length = 1) || !decide ((tl z)[0]? = some 48))
/-! ### more of the mathematics -/
theorem scan_words {z : Str} : ∀ {n i : Nat} {acc ws : List Str}, scan z n i acc = some ws → acc.length ≤ i → i ≤ z.length → (∀ y ∈ acc, y.length ≤ z.length) → ws.length ≤ z.length ∧ ∀ y ∈ ws, y.length ≤ z.length
  | 0, i, acc, ws, h, l, hi, ha => by
    have e : acc = ws := Option.some.inj h
    rw [← e]
    exact ⟨by omega, ha⟩
  | n + 1, i, acc, ws, h, l, hi, ha => by
    unfold scan at h
    cases e : (tl z)[i]? with
    | none =>
      rw [e] at h
      have e : acc = ws := Option.some.inj h
      rw [← e]
      exact ⟨by omega, ha⟩
    | some c =>
      rw [e] at h
      have hi1 : i < z.length := by
        rw [str_len]
        exact (List.getElem?_eq_some_iff.mp e).1
      have h2 : (if c = 32 then scan z n (i + 1) acc else if wordEnd z i c = i then none else scan z n (wordEnd z i c) (acc ++ [cutS z (some (i : Int)) (some (wordEnd z i c : Int))])) = some ws := h
      have g := wordEnd_ge z i c
      split at h2
      · exact scan_words h2 (by omega) (by omega) ha
      · split at h2
        · cases h2
        · refine scan_words h2 (by rw [List.length_append]; show acc.length + 1 ≤ _; omega) (wordEnd_le e) fun y hy => ?_
          rcases List.mem_append.mp hy with hy | hy
          · exact ha y hy
          · rw [show y = _ by simpa using hy]
            exact cutS_length _ _ _
theorem wordsOf_small {z : Str} {ws : List Str} (h : wordsW z = some ws) : ws.length ≤ z.length ∧ ∀ y ∈ ws, y.length ≤ z.length :=
  scan_words h (Nat.le_refl _) (Nat.zero_le _) (by simp)
theorem pair_cps {z : Str} {i : Nat} : pairAt z i = true ↔ ∃ a, (tl z)[i]? = some a ∧ (tl z)[i + 1]? = some 61 ∧ (a = 60 ∨ a = 62 ∨ a = 61 ∨ a = 33) := by
  have key : ∀ (w : Str) (a : Nat), tl w = [a, 61] → (eqV (.str w) (.str (cutS z (some (i : Int)) (some ((i + 2 : Nat) : Int)))) = true ↔ (tl z)[i]? = some a ∧ (tl z)[i + 1]? = some 61) := fun w a hw => by
    have e1 : eqV (.str w) (.str (cutS z (some (i : Int)) (some ((i + 2 : Nat) : Int)))) = (w == cutS z (some (i : Int)) (some ((i + 2 : Nat) : Int))) := rfl
    rw [e1, beq_iff_eq]
    constructor
    · intro e
      have hl := cutS_len2 z i
      have h2 : (cutS z (some (i : Int)) (some ((i + 2 : Nat) : Int))).length = 2 := by
        rw [← e, str_len]
        show (tl w).length = 2
        rw [hw]
        rfl
      have h3 : i + 2 ≤ z.length := by omega
      have h4 := cutS_nat z (i := i) (j := i + 2) (by omega) h3
      rw [← e, show w.cps.toList = [a, 61] from hw, show i + 2 - i = 2 by omega] at h4
      have h5 : ((tl z).drop i)[0]? = some a := by
        have h6 : (((tl z).drop i).take 2)[0]? = some a := by rw [← h4]; rfl
        rw [List.getElem?_take] at h6
        simpa using h6
      have h7 : ((tl z).drop i)[1]? = some 61 := by
        have h6 : (((tl z).drop i).take 2)[1]? = some 61 := by rw [← h4]; rfl
        rw [List.getElem?_take] at h6
        simpa using h6
      rw [List.getElem?_drop] at h5 h7
      exact ⟨by simpa using h5, h7⟩
    · rintro ⟨h1, h2⟩
      have l1 := (List.getElem?_eq_some_iff.mp h1)
      have l2 := (List.getElem?_eq_some_iff.mp h2)
      obtain ⟨l1, v1⟩ := l1
      obtain ⟨l2, v2⟩ := l2
      have hz : z.length = (tl z).length := str_len z
      refine str_ext ?_
      rw [cutS_nat z (i := i) (j := i + 2) (by omega) (by omega), show w.cps.toList = [a, 61] from hw, show i + 2 - i = 2 by omega]
      show [a, 61] = List.take 2 (List.drop i (tl z))
      rw [List.drop_eq_getElem_cons l1, List.drop_eq_getElem_cons l2, v1, v2]
      rfl
  unfold pairAt inV
  simp only [List.any_cons, List.any_nil, Bool.or_false, Bool.or_eq_true]
  rw [key _ 60 (by decide +kernel), key _ 62 (by decide +kernel), key _ 61 (by decide +kernel), key _ 33 (by decide +kernel)]
  constructor
  · rintro (⟨h, h'⟩ | ⟨h, h'⟩ | ⟨h, h'⟩ | ⟨h, h'⟩)
    · exact ⟨_, h, h', by omega⟩
    · exact ⟨_, h, h', by omega⟩
    · exact ⟨_, h, h', by omega⟩
    · exact ⟨_, h, h', by omega⟩
  · rintro ⟨a, h, h', (rfl | rfl | rfl | rfl)⟩
    · exact .inl ⟨h, h'⟩
    · exact .inr (.inl ⟨h, h'⟩)
    · exact .inr (.inr (.inl ⟨h, h'⟩))
    · exact .inr (.inr (.inr ⟨h, h'⟩))
theorem space_end {z : Str} {i : Nat} (e : (tl z)[i]? = some 32) : wordEnd z i 32 = i := by
  unfold wordEnd
  rw [if_neg (by decide +kernel), if_neg (by decide +kernel), if_neg, if_neg (by decide +kernel)]
  rw [pair_cps]
  rintro ⟨a, h, _, h2⟩
  rw [e] at h
  have : 32 = a := Option.some.inj h
  omega
/-! spaces around a text -/
structure Around_ (z y : Str) (n : Nat) : Prop where
  eq : tl y = List.replicate n 32 ++ tl z ++ [32, 32]
section
variable {z y : Str} {n : Nat}
theorem Around_.at (A : Around_ z y n) {i : Nat} (h : i < (tl z).length) : (tl y)[n + i]? = (tl z)[i]? := by
  rw [A.eq, List.append_assoc, List.getElem?_append_right (by simp), List.length_replicate, Nat.add_sub_cancel_left, List.getElem?_append_left h]
theorem Around_.behind (A : Around_ z y n) {i : Nat} (h : i = (tl z).length ∨ i = (tl z).length + 1) : (tl y)[n + i]? = some 32 := by
  rw [A.eq, List.append_assoc, List.getElem?_append_right (by simp), List.length_replicate, Nat.add_sub_cancel_left, List.getElem?_append_right (by omega)]
  rcases h with rfl | rfl
  · simp
  · rw [Nat.add_sub_cancel_left]
    rfl
theorem Around_.ahead (A : Around_ z y n) {i : Nat} (h : i < n) : (tl y)[i]? = some 32 := by
  rw [A.eq, List.append_assoc, List.getElem?_append_left (by simpa using h), List.getElem?_replicate, if_pos h]
theorem Around_.len (A : Around_ z y n) : y.length = n + z.length + 2 := by
  have hz : z.length = (tl z).length := str_len z
  have hy : y.length = (tl y).length := str_len y
  rw [hy, hz, A.eq, List.length_append, List.length_append, List.length_replicate]
  rfl
theorem Around_.run (A : Around_ z y n) {p : List Nat} (hp : 32 ∉ p) : ∀ {k i : Nat}, k = (tl z).length - i → i ≤ (tl z).length → runEnd (tl y) p (n + i) = n + runEnd (tl z) p i
  | 0, i, hk, hi => by
    have e : i = (tl z).length := by omega
    rw [runEnd_out (cs := tl z) (by omega), runEnd_no (A.behind (.inl e)) hp]
  | k + 1, i, hk, hi => by
    have hi2 : i < (tl z).length := by omega
    have g := A.at hi2
    have e := List.getElem?_eq_getElem hi2
    rw [e] at g
    by_cases h : (tl z)[i] ∈ p
    · rw [runEnd_yes g h, runEnd_yes e h, Nat.add_assoc, A.run hp (k := k) (by omega) (by omega)]
    · rw [runEnd_no g h, runEnd_no e h]
theorem Around_.pair (A : Around_ z y n) {i : Nat} (h : i < (tl z).length) : pairAt y (n + i) = pairAt z i := by
  rw [Bool.eq_iff_iff, pair_cps, pair_cps, A.at h]
  by_cases h2 : i + 1 < (tl z).length
  · rw [Nat.add_assoc, A.at h2]
  · have e1 : (tl y)[n + i + 1]? = some 32 := by
      rw [Nat.add_assoc]
      exact A.behind (.inl (by omega))
    have e2 : (tl z)[i + 1]? = none := List.getElem?_eq_none_iff.mpr (by omega)
    rw [e1, e2]
    constructor
    · rintro ⟨a, _, h, _⟩
      cases h
    · rintro ⟨a, _, h, _⟩
      cases h
theorem Around_.word (A : Around_ z y n) {i c : Nat} (h : i < (tl z).length) : wordEnd y (n + i) c = n + wordEnd z i c := by
  unfold wordEnd
  rw [A.pair h, A.run (by decide +kernel) rfl (Nat.le_of_lt h), A.run (by decide +kernel) rfl (Nat.le_of_lt h)]
  split
  · rfl
  · split
    · rfl
    · split
      · omega
      · split <;> omega
theorem Around_.cut (A : Around_ z y n) {i j : Nat} (h : i ≤ j) (hj : j ≤ z.length) : cutS y (some ((n + i : Nat) : Int)) (some ((n + j : Nat) : Int)) = cutS z (some (i : Int)) (some (j : Int)) := by
  have hl := A.len
  have hz : z.length = (tl z).length := str_len z
  refine str_ext ?_
  rw [cutS_nat y (by omega) (by omega), cutS_nat z (by omega) hj]
  show List.take (n + j - (n + i)) (List.drop (n + i) (tl y)) = List.take (j - i) (List.drop i (tl z))
  rw [A.eq, List.append_assoc, List.drop_append, List.drop_of_length_le (by simp), List.nil_append, List.length_replicate, Nat.add_sub_cancel_left, List.drop_append_of_le_length (by omega), List.take_append_of_le_length (by rw [List.length_drop]; omega), show n + j - (n + i) = j - i by omega]
theorem Around_.go (A : Around_ z y n) : ∀ {k i : Nat} {acc : List Str}, k = z.length - i → i ≤ z.length → from_ y (n + i) acc = from_ z i acc := by
  have hz : z.length = (tl z).length := str_len z
  have hl := A.len
  intro k
  induction k using Nat.strongRecOn with
  | _ k ih =>
    intro i acc hk hi
    by_cases hlt : i < (tl z).length
    · have e := List.getElem?_eq_getElem hlt
      have g := A.at hlt
      rw [e] at g
      rw [from_step g, from_step e, A.word hlt]
      have w1 := wordEnd_ge z i (tl z)[i]
      have w2 := wordEnd_le e
      split
      · rw [Nat.add_assoc]
        exact ih _ (by omega) rfl (by omega)
      · by_cases h2 : wordEnd z i (tl z)[i] = i
        · rw [if_pos (by omega), if_pos h2]
        · rw [if_neg (by omega), if_neg h2, A.cut w1 w2]
          exact ih _ (by omega) rfl (by omega)
    · have e : i = (tl z).length := by omega
      rw [from_step (A.behind (.inl e)), if_pos rfl, Nat.add_assoc, from_step (A.behind (.inr (by omega))), if_pos rfl, from_out (by omega), from_out (by omega)]
theorem Around_.words (A : Around_ z y n) : wordsW y = wordsW z := by
  have hl := A.len
  have h : ∀ m, m ≤ n → from_ y m [] = from_ y 0 [] := fun m => by
    induction m with
    | zero => intro _; rfl
    | succ m ih =>
      intro hm
      rw [← ih (by omega), from_step (i := m) (A.ahead (by omega)), if_pos rfl]
  unfold wordsW
  rw [← h n (Nat.le_refl _)]
  exact A.go (i := 0) rfl (Nat.zero_le _)
end
theorem around_mk (z : Str) (k : Int) : Around_ z (repS (" " : Str) k ++ z ++ ("  " : Str)) k.toNat := by
  refine ⟨?_⟩
  show ((repS (" " : Str) k ++ z ++ ("  " : Str)) : Str).cps.toList = _
  rw [app_tl, app_tl]
  have e1 : (repS (" " : Str) k).cps.toList = List.replicate k.toNat 32 := by
    unfold repS
    have e : ((" " : Str)).cps.toList = [32] := by decide +kernel
    rw [e]
    simp
  have e2 : (("  " : Str)).cps.toList = [32, 32] := by decide +kernel
  rw [e1, e2]
/-! ### the words by what is left -/
def mkS (l : List Nat) : Str := ⟨l.toArray⟩
theorem mkS_tl (l : List Nat) : tl (mkS l) = l := by simp [mkS]
theorem tl_mkS (z : Str) : mkS (tl z) = z := str_ext (by simp [mkS])
abbrev EQS : List Nat := [60, 62, 61, 33]
def wordLen : List Nat → Nat
  | [] => 0
  | c :: r => if c ∈ tl LET then 1 + (r.takeWhile fun d => decide (d ∈ tl LET)).length else if c ∈ tl DIG then 1 + (r.takeWhile fun d => decide (d ∈ tl DIG)).length
    else if r.head? = some 61 ∧ c ∈ EQS then 2 else if c ∈ tl SHO then 1 else 0
theorem wordLen_cons (c : Nat) (r : List Nat) : wordLen (c :: r) = if c ∈ tl LET then 1 + (r.takeWhile fun d => decide (d ∈ tl LET)).length else if c ∈ tl DIG then 1 + (r.takeWhile fun d => decide (d ∈ tl DIG)).length
    else if r.head? = some 61 ∧ c ∈ EQS then 2 else if c ∈ tl SHO then 1 else 0 := rfl
theorem wordLen_le : ∀ l : List Nat, wordLen l ≤ l.length
  | [] => Nat.le_refl _
  | c :: r => by
    show (if c ∈ tl LET then _ else if c ∈ tl DIG then _ else if r.head? = some 61 ∧ c ∈ EQS then 2 else if c ∈ tl SHO then 1 else 0) ≤ (c :: r).length
    have h : ∀ p : Nat → Bool, (r.takeWhile p).length ≤ r.length := fun p => (List.takeWhile_prefix p).length_le
    have h1 := h fun d => decide (d ∈ tl LET)
    have h2 := h fun d => decide (d ∈ tl DIG)
    rw [List.length_cons]
    split
    · omega
    · split
      · omega
      · split
        · rename_i h3
          cases r with
          | nil => simp at h3
          | cons x r => rw [List.length_cons]; omega
        · split <;> omega
theorem wordEnd_len {z : Str} {i c : Nat} (e : (tl z)[i]? = some c) : wordEnd z i c = i + wordLen ((tl z).drop i) := by
  obtain ⟨hi, v⟩ := List.getElem?_eq_some_iff.mp e
  rw [List.drop_eq_getElem_cons hi, v]
  unfold wordEnd
  rw [wordLen_cons]
  have hp : pairAt z i = true ↔ ((tl z).drop (i + 1)).head? = some 61 ∧ c ∈ EQS := by
    rw [pair_cps, List.head?_drop, e]
    constructor
    · rintro ⟨a, h1, h2, h3⟩
      have h1 := Option.some.inj h1
      subst h1
      refine ⟨h2, ?_⟩
      simp only [List.mem_cons, List.not_mem_nil, or_false]
      omega
    · rintro ⟨h1, h2⟩
      refine ⟨c, rfl, h1, ?_⟩
      simp only [List.mem_cons, List.not_mem_nil, or_false] at h2
      omega
  have hr : ∀ p : List Nat, c ∈ p → runEnd (tl z) p i = i + (1 + (((tl z).drop (i + 1)).takeWhile fun d => decide (d ∈ p)).length) := fun p h => by
    unfold runEnd
    rw [List.drop_eq_getElem_cons hi, v, List.takeWhile_cons_of_pos (by simpa using h), List.length_cons]
    omega
  by_cases h1 : c ∈ tl LET
  · rw [if_pos h1, if_pos h1, hr _ h1]
  · rw [if_neg h1, if_neg h1]
    by_cases h2 : c ∈ tl DIG
    · rw [if_pos h2, if_pos h2, hr _ h2]
    · rw [if_neg h2, if_neg h2]
      by_cases h3 : pairAt z i = true
      · rw [if_pos h3, if_pos (hp.mp h3)]
      · rw [if_neg h3, if_neg (fun h => h3 (hp.mpr h))]
        split <;> rfl
def lex : Nat → List Nat → Option (List (List Nat))
  | 0, _ => some []
  | _ + 1, [] => some []
  | n + 1, c :: r => if c = 32 then lex n r else if wordLen (c :: r) = 0 then none else (lex n ((c :: r).drop (wordLen (c :: r)))).map ((c :: r).take (wordLen (c :: r)) :: ·)
theorem lex_nil (n : Nat) : lex n [] = some [] := by
  cases n <;> rfl
theorem lex_fuel : ∀ {n m : Nat} {l : List Nat}, l.length ≤ n → l.length ≤ m → lex n l = lex m l
  | 0, m, l, h, _ => by
    have e : l = [] := List.length_eq_zero_iff.mp (by omega)
    subst e
    rw [lex_nil, lex_nil]
  | n + 1, 0, l, _, h => by
    have e : l = [] := List.length_eq_zero_iff.mp (by omega)
    subst e
    rw [lex_nil, lex_nil]
  | n + 1, m + 1, [], _, _ => rfl
  | n + 1, m + 1, c :: r, h1, h2 => by
    rw [List.length_cons] at h1 h2
    unfold lex
    split
    · exact lex_fuel (by omega) (by omega)
    · split
      · rfl
      · rename_i h3
        have hd : ((c :: r).drop (wordLen (c :: r))).length ≤ r.length := by
          rw [List.length_drop, List.length_cons]
          omega
        rw [lex_fuel (n := n) (m := m) (by omega) (by omega)]
def lexL (l : List Nat) : Option (List (List Nat)) := lex l.length l
theorem lexL_nil : lexL [] = some [] := rfl
theorem lexL_space (r : List Nat) : lexL (32 :: r) = lexL r := by
  rfl
theorem lexL_word {c : Nat} {r : List Nat} (h : c ≠ 32) : lexL (c :: r) = if wordLen (c :: r) = 0 then none else (lexL ((c :: r).drop (wordLen (c :: r)))).map ((c :: r).take (wordLen (c :: r)) :: ·) := by
  show (if c = 32 then lex r.length r else if wordLen (c :: r) = 0 then none else (lex r.length ((c :: r).drop (wordLen (c :: r)))).map ((c :: r).take (wordLen (c :: r)) :: ·)) = _
  rw [if_neg h]
  split
  · rfl
  · rename_i h3
    have hd : ((c :: r).drop (wordLen (c :: r))).length ≤ r.length := by
      rw [List.length_drop, List.length_cons]
      omega
    unfold lexL
    rw [lex_fuel hd (Nat.le_refl _)]
theorem lexL_spaces : ∀ (n : Nat) (r : List Nat), lexL (List.replicate n 32 ++ r) = lexL r
  | 0, r => rfl
  | n + 1, r => by
    rw [List.replicate_succ, List.cons_append, lexL_space, lexL_spaces n r]
theorem from_lex {z : Str} : ∀ {k i : Nat} {acc : List Str}, k = z.length - i → i ≤ z.length → from_ z i acc = (lexL ((tl z).drop i)).map fun ws => acc ++ ws.map mkS := by
  have hz : z.length = (tl z).length := str_len z
  intro k
  induction k using Nat.strongRecOn with
  | _ k ih =>
    intro i acc hk hi
    by_cases hlt : i < (tl z).length
    · have e := List.getElem?_eq_getElem hlt
      have hd := List.drop_eq_getElem_cons hlt
      rw [from_step e, wordEnd_len e]
      have w := wordLen_le ((tl z).drop i)
      rw [List.length_drop] at w
      by_cases h : (tl z)[i] = 32
      · rw [if_pos h, hd, h, lexL_space]
        exact ih _ (by omega) rfl (by omega)
      · rw [if_neg h]
        have hx : lexL ((tl z).drop i) = if wordLen ((tl z).drop i) = 0 then none else (lexL (((tl z).drop i).drop (wordLen ((tl z).drop i)))).map (((tl z).drop i).take (wordLen ((tl z).drop i)) :: ·) := by
          rw [hd]
          exact lexL_word h
        rw [hx]
        by_cases h2 : wordLen ((tl z).drop i) = 0
        · rw [if_pos (by omega), if_pos h2]
          rfl
        · rw [if_neg (by omega), if_neg h2, ih _ (by omega) rfl (by omega), List.drop_drop, Option.map_map]
          congr 1
          funext ws
          show acc ++ [_] ++ ws.map mkS = acc ++ (_ :: ws.map mkS)
          rw [List.append_assoc]
          congr 1
          show _ :: ws.map mkS = _ :: ws.map mkS
          congr 1
          refine str_ext ?_
          have e3 := cutS_nat z (i := i) (j := i + wordLen ((tl z).drop i)) (by omega) (by omega)
          rw [e3, Nat.add_sub_cancel_left, show (mkS _).cps.toList = _ from mkS_tl _]
    · have e : i = (tl z).length := by omega
      rw [from_out (by omega), List.drop_of_length_le (by omega)]
      show some acc = some (acc ++ [])
      rw [List.append_nil]
theorem words_lex (z : Str) : wordsW z = (lexL (tl z)).map (·.map mkS) := by
  unfold wordsW
  rw [from_lex (i := 0) rfl (Nat.zero_le _), List.drop_zero]
  congr 1
/-- a text that is one word -/
def joinsC (a c : Nat) : Prop := (a ∈ tl LET ∧ c ∈ tl LET) ∨ (a ∈ tl DIG ∧ c ∈ tl DIG) ∨ (a ∈ EQS ∧ c ∈ EQS)
def okNext (w rest : List Nat) : Prop := rest = [] ∨ ∃ a c r, w.getLast? = some a ∧ rest = c :: r ∧ ¬ joinsC a c
structure IsTok (w : List Nat) : Prop where
  ne : ∃ c r, w = c :: r ∧ c ≠ 32
  len : ∀ rest, okNext w rest → wordLen (w ++ rest) = w.length
theorem lexL_tok {w rest : List Nat} (h : IsTok w) (n : okNext w rest) : lexL (w ++ rest) = (lexL rest).map (w :: ·) := by
  obtain ⟨c, r, e, hc⟩ := h.ne
  have hl := h.len rest n
  subst e
  rw [List.cons_append] at hl ⊢
  rw [lexL_word hc, hl, if_neg (by simp)]
  have e1 : (c :: (r ++ rest)).drop (c :: r).length = rest := by
    rw [← List.cons_append, List.drop_left]
  have e2 : (c :: (r ++ rest)).take (c :: r).length = c :: r := by
    rw [← List.cons_append, List.take_left]
  rw [e1, e2]
theorem takeWhile_run {p : Nat → Bool} {w rest : List Nat} (h : ∀ c ∈ w, p c = true) (n : rest = [] ∨ ∃ c r, rest = c :: r ∧ p c = false) : (w ++ rest).takeWhile p = w := by
  induction w with
  | nil =>
    rcases n with rfl | ⟨c, r, rfl, h2⟩
    · rfl
    · rw [List.nil_append, List.takeWhile_cons_of_neg (by rw [h2]; simp)]
  | cons x w ih =>
    rw [List.cons_append, List.takeWhile_cons_of_pos (h x List.mem_cons_self), ih fun c hc => h c (List.mem_cons_of_mem _ hc)]
theorem getLast_mem' {w : List Nat} {a : Nat} (h : w.getLast? = some a) : a ∈ w := List.mem_of_getLast? h
theorem let32 : ∀ c ∈ tl LET, c ≠ 32 := by decide +kernel
theorem dig32 : ∀ c ∈ tl DIG, c ≠ 32 ∧ c ∉ tl LET := by decide +kernel
theorem sho32 : ∀ c ∈ tl SHO, c ≠ 32 ∧ c ∉ tl LET ∧ c ∉ tl DIG := by decide +kernel
theorem eqs32 : ∀ c ∈ EQS, c ≠ 32 ∧ c ∉ tl LET ∧ c ∉ tl DIG := by decide +kernel
theorem tok_let {w : List Nat} (ne : w ≠ []) (h : ∀ c ∈ w, c ∈ tl LET) : IsTok w := by
  obtain ⟨c, r, rfl⟩ := List.exists_cons_of_ne_nil ne
  have hc := h c List.mem_cons_self
  refine ⟨⟨c, r, rfl, let32 c hc⟩, fun rest n => ?_⟩
  rw [List.cons_append]
  rw [wordLen_cons]
  rw [if_pos hc, takeWhile_run (w := r) (fun d hd => by simpa using h d (List.mem_cons_of_mem _ hd)), List.length_cons, Nat.add_comm]
  rcases n with rfl | ⟨a, d, q, ha, rfl, hn⟩
  · exact .inl rfl
  · exact .inr ⟨d, q, rfl, decide_eq_false fun hd => hn (.inl ⟨h a (getLast_mem' ha), hd⟩)⟩
theorem tok_dig {w : List Nat} (ne : w ≠ []) (h : ∀ c ∈ w, c ∈ tl DIG) : IsTok w := by
  obtain ⟨c, r, rfl⟩ := List.exists_cons_of_ne_nil ne
  have hc := h c List.mem_cons_self
  refine ⟨⟨c, r, rfl, (dig32 c hc).1⟩, fun rest n => ?_⟩
  rw [List.cons_append]
  rw [wordLen_cons]
  rw [if_neg (dig32 c hc).2, if_pos hc, takeWhile_run (w := r) (fun d hd => by simpa using h d (List.mem_cons_of_mem _ hd)), List.length_cons, Nat.add_comm]
  rcases n with rfl | ⟨a, d, q, ha, rfl, hn⟩
  · exact .inl rfl
  · exact .inr ⟨d, q, rfl, decide_eq_false fun hd => hn (.inr (.inl ⟨h a (getLast_mem' ha), hd⟩))⟩
theorem tok_one {c : Nat} (h : c ∈ tl SHO) : IsTok [c] := by
  obtain ⟨h1, h2, h3⟩ := sho32 c h
  refine ⟨⟨c, [], rfl, h1⟩, fun rest n => ?_⟩
  show wordLen (c :: rest) = 1
  rw [wordLen_cons]
  rw [if_neg h2, if_neg h3, if_neg, if_pos h]
  rintro ⟨h4, h5⟩
  rcases n with rfl | ⟨a, d, q, ha, rfl, hn⟩
  · cases h4
  · have e1 : d = 61 := Option.some.inj h4
    have e2 : c = a := Option.some.inj ha
    exact hn (.inr (.inr ⟨e2 ▸ h5, by rw [e1]; decide⟩))
theorem tok_two {c : Nat} (h : c ∈ EQS) : IsTok [c, 61] := by
  obtain ⟨h1, h2, h3⟩ := eqs32 c h
  refine ⟨⟨c, [61], rfl, h1⟩, fun rest n => ?_⟩
  show wordLen (c :: 61 :: rest) = 2
  rw [wordLen_cons]
  rw [if_neg h2, if_neg h3, if_pos ⟨rfl, h⟩]
end WM
namespace W3
open PySem PySem.Spec PyProof.Rows L2 Wy WM
/-! ### numbers as words -/
def dv (z : Str) : Int := ((NumText.digitsVal (tl z) : Nat) : Int)
theorem dig_range : ∀ c ∈ tl DIG, 48 ≤ c ∧ c ≤ 57 := by decide +kernel
theorem dig_mem {c : Nat} (h : 48 ≤ c ∧ c ≤ 57) : c ∈ tl DIG := by
  have : ∀ k, k < 10 → 48 + k ∈ tl DIG := by decide +kernel
  have e := this (c - 48) (by omega)
  rwa [show 48 + (c - 48) = c by omega] at e
theorem number_parts {z : Str} (h : numberW z = true) : 1 ≤ z.length ∧ z.length ≤ 10 ∧ (∀ c ∈ tl z, c ∈ tl DIG) := by
  unfold numberW at h
  simp only [Bool.and_eq_true, decide_eq_true_eq] at h
  exact ⟨h.1.1.1, h.1.1.2, h.1.2⟩
theorem ne_of_len {z : Str} (h : 1 ≤ z.length) : tl z ≠ [] := by
  intro e
  rw [str_len] at h
  rw [show z.cps.toList = [] from e] at h
  simp at h
theorem number_int {z : Str} (h : numberW z = true) : intText? z = some (dv z) ∧ z.length ≤ 640 := by
  obtain ⟨h1, h2, h3⟩ := number_parts h
  exact ⟨intText_digits (fun c hc => dig_range c (h3 c hc)) (ne_of_len h1) (by omega), by omega⟩
theorem minus_int {z : Str} (h : numberW z = true) : intText? (("-" : Str) ++ z) = some (-dv z) ∧ (("-" : Str) ++ z).length ≤ 640 := by
  obtain ⟨h1, h2, h3⟩ := number_parts h
  have hl : (("-" : Str) ++ z).length = 1 + z.length := app_len _ _
  exact ⟨intText_neg (cs := tl z) (by rw [app_tl]; rfl) (fun c hc => dig_range c (h3 c hc)) (ne_of_len h1) (by omega), by omega⟩
open NumText in
theorem plus_int {z : Str} (h : numberW z = true) : intText? (("+" : Str) ++ z) = some (dv z) ∧ (("+" : Str) ++ z).length ≤ 640 := by
  obtain ⟨g1, g2, g3⟩ := number_parts h
  have hl : (("+" : Str) ++ z).length = 1 + z.length := app_len _ _
  have hd : AllDigits (tl z) := fun c hc => dig_range c (g3 c hc)
  have hx : (("+" : Str) ++ z).cps.toList = 43 :: tl z := by rw [app_tl]; rfl
  have h1 : tl z ≠ [] := ne_of_len g1
  refine ⟨?_, by omega⟩
  have lo : ∀ c ∈ (("+" : Str) ++ z).cps.toList, c ≠ 0 ∧ c < 128 := by
    rw [hx]
    intro c hc
    rcases List.mem_cons.mp hc with e | hc
    · omega
    · have := hd c hc
      omega
  have e1 : numTextOf (("+" : Str) ++ z) = (("+" : Str) ++ z).cps.toList := if_pos (by
    rw [← Array.all_toList, List.all_eq_true]
    exact fun c hc => decide_eq_true (lo c hc).2)
  have e2 : numSeenOf (("+" : Str) ++ z) = (("+" : Str) ++ z).cps.toList := by
    show (numTextOf (("+" : Str) ++ z)).takeWhile _ = _
    rw [e1]
    exact takeWhile_all fun c hc => bne_iff_ne.mpr (lo c hc).1
  have es : sign ((43 :: tl z).dropWhile blank) = (false, tl z) := by rw [dropWhile_of (by decide)]; rfl
  have ec : core (43 :: tl z) = tl z := by
    unfold core
    rw [es]
    show ((tl z).reverse.dropWhile blank).reverse = tl z
    rw [dropWhile_digits hd.reverse, List.reverse_reverse]
  unfold intText?
  rw [e1, e2, hx, if_pos (beq_self_eq_true _), ec, es, digits_of hd h1]
  have hsz := push_size (tl z) #[]
  have hv := push_foldl (tl z) #[]
  have hzl : (tl z).length = z.length := (str_len z).symm
  show (if _ ≤ 4300 then some (worth false _) else none) = _
  rw [if_pos (by rw [hsz]; simp only [Array.size_empty]; omega)]
  unfold worth dv digitsVal
  rw [hv]
  rfl
/-- a number's text -/
def numS (n : Nat) : Str := Str.ofString (toString ((n : Nat) : Int))
theorem numS_tl (n : Nat) : tl (numS n) = TL.numL n := TL.tl_num n
theorem numL_head {n : Nat} (h : 0 < n) : (TL.numL n)[0]? ≠ some 48 := by
  induction n using Nat.strongRecOn with
  | _ n ih =>
    by_cases h10 : n < 10
    · rw [TL.numL_lt h10]
      intro e
      have : 48 + n = 48 := Option.some.inj e
      omega
    · rw [TL.numL_step (by omega)]
      intro e
      have hne := TL.numL_ne (n / 10)
      rw [List.getElem?_append_left (List.length_pos_iff.mpr hne)] at e
      exact ih (n / 10) (by omega) (by omega) e
theorem numS_len {n : Nat} (h : n < 10 ^ 10) : 1 ≤ (numS n).length ∧ (numS n).length ≤ 10 := by
  rw [str_len]
  show 1 ≤ (tl (numS n)).length ∧ (tl (numS n)).length ≤ 10
  rw [numS_tl]
  exact ⟨List.length_pos_iff.mpr (TL.numL_ne n), TL.numL_len (by decide) h⟩
theorem numS_number {n : Nat} (h : n < 10 ^ 10) : numberW (numS n) = true := by
  obtain ⟨h1, h2⟩ := numS_len h
  unfold numberW
  rw [decide_eq_true h1, decide_eq_true h2, numS_tl, decide_eq_true (fun c hc => dig_mem (TL.numL_digits n c hc))]
  by_cases h0 : n = 0
  · subst h0
    decide +kernel
  · rw [decide_eq_false (numL_head (by omega))]
    simp
theorem numS_dv (n : Nat) : dv (numS n) = n := by
  unfold dv
  rw [numS_tl, TL.numL_val]
theorem toStr_nat {i : Int} (h : 0 ≤ i) : Str.ofString (toString i) = numS i.toNat := by
  unfold numS
  rw [Int.toNat_of_nonneg h]
theorem name_parts {z : Str} (h : nameW z = true) : 1 ≤ z.length ∧ z.length ≤ 12 ∧ inV (.str z) RESV = false ∧ ∀ c ∈ tl z, c ∈ tl LET := by
  unfold nameW at h
  simp only [Bool.and_eq_true, decide_eq_true_eq, Bool.not_eq_true'] at h
  exact ⟨h.1.1.1, h.1.1.2, h.1.2, h.2⟩
theorem name_not_number {z : Str} (h : nameW z = true) : numberW z = false := by
  cases e : numberW z with
  | false => rfl
  | true =>
    obtain ⟨h1, _, _, h4⟩ := name_parts h
    obtain ⟨_, _, g3⟩ := number_parts e
    obtain ⟨c, r, e⟩ := List.exists_cons_of_ne_nil (ne_of_len h1)
    have a := h4 c (by rw [e]; exact List.mem_cons_self)
    have b := g3 c (by rw [e]; exact List.mem_cons_self)
    exact absurd a (dig32 c b).2
theorem name_ne {z y : Str} (h : nameW z = true) (hy : nameW y = false) : z ≠ y := by
  intro e
  rw [e, hy] at h
  cases h
theorem number_ne {z y : Str} (h : numberW z = true) (hy : numberW y = false) : z ≠ y := by
  intro e
  rw [e, hy] at h
  cases h
/-! ### expressions -/
inductive Ex where
  | num (n : Int)
  | var (x : Str) (p : Int)
  | item (x : Str) (i : Ex) (p : Int)
  deriving DecidableEq
def Ex.d : Ex → PyData
  | .num n => .tuple [.str "num", .int n]
  | .var x p => .tuple [.str "var", .str x, .int p]
  | .item x i p => .tuple [.str "item", .str x, i.d, .int p]
def wordAt (ws : List Str) (i : Nat) : Str := ws.getD i ""
def takeSigned (ws : List Str) (i : Nat) : Option (Int × Nat) :=
  if numberW (wordAt ws i) = true then some (dv (wordAt ws i), i + 1) else if wordAt ws i = "-" ∧ numberW (wordAt ws (i + 1)) = true then some (-dv (wordAt ws (i + 1)), i + 2) else none
def takePlus (ws : List Str) (i : Nat) : Option (Int × Nat) :=
  if wordAt ws i = "+" ∨ wordAt ws i = "-" then (if numberW (wordAt ws (i + 1)) = true then some (if wordAt ws i = "+" then dv (wordAt ws (i + 1)) else -dv (wordAt ws (i + 1)), i + 2) else none) else some (0, i)
def takePlain (ws : List Str) (i : Nat) : Option (Ex × Nat) :=
  if nameW (wordAt ws i) = true then (match takePlus ws (i + 1) with | none => none | some (p, j) => some (.var (wordAt ws i) p, j))
  else (match takeSigned ws i with | none => none | some (n, j) => some (.num n, j))
def takeExpr (ws : List Str) (i : Nat) : Option (Ex × Nat) :=
  if nameW (wordAt ws i) = true ∧ wordAt ws (i + 1) = "[" then (match takePlain ws (i + 2) with
    | none => none
    | some (x, j) => if wordAt ws j = "]" then (match takePlus ws (j + 1) with | none => none | some (p, k) => some (.item (wordAt ws i) x p, k)) else none)
  else takePlain ws i
def wholeE (t : Option (Ex × Nat)) (n : Nat) : Option Ex := match t with
  | none => none
  | some (e, j) => if j = n then some e else none
def readW (ws : List Str) : Option Ex := wholeE (takeExpr ws 0) ws.length
def iD : Option (Int × Nat) → PyData
  | none => .none
  | some (n, j) => .tuple [.int n, .int (j : Int)]
def eD : Option (Ex × Nat) → PyData
  | none => .none
  | some (e, j) => .tuple [e.d, .int (j : Int)]
def oD : Option Ex → PyData
  | none => .none
  | some e => e.d
theorem wordAt_in {ws : List Str} {i : Nat} (h : i < ws.length) : wordAt ws i = ws[i] := by
  unfold wordAt
  rw [List.getD_eq_getElem?_getD, List.getElem?_eq_getElem h]
  rfl
theorem wordAt_out {ws : List Str} {i : Nat} (h : ws.length ≤ i) : wordAt ws i = "" := by
  unfold wordAt
  rw [List.getD_eq_getElem?_getD, List.getElem?_eq_none h]
  rfl
theorem wordAt_lt {ws : List Str} {i : Nat} (h : wordAt ws i ≠ "") : i < ws.length := by
  by_cases hi : i < ws.length
  · exact hi
  · exact absurd (wordAt_out (by omega)) h
theorem no_num : numberW ("" : Str) = false := by decide +kernel
theorem no_name : nameW ("" : Str) = false := by decide +kernel
theorem number_lt {ws : List Str} {i : Nat} (h : numberW (wordAt ws i) = true) : i < ws.length := wordAt_lt (number_ne h no_num)
theorem name_lt {ws : List Str} {i : Nat} (h : nameW (wordAt ws i) = true) : i < ws.length := wordAt_lt (name_ne h no_name)
structure SmallW (ws : List Str) : Prop where
  len : ws.length ≤ 10000
  each : ∀ y ∈ ws, y.length ≤ 10000
theorem SmallW.at {ws : List Str} (s : SmallW ws) (i : Nat) : (wordAt ws i).length ≤ 10000 := by
  by_cases hi : i < ws.length
  · rw [wordAt_in hi]
    exact s.each _ (List.getElem_mem hi)
  · rw [wordAt_out (by omega)]
    exact Nat.zero_le _
theorem SmallW.at6 {ws : List Str} (s : SmallW ws) (i : Nat) : (wordAt ws i).length ≤ 1000000 := Nat.le_trans (s.at i) (by decide)
theorem dv_bound {z : Str} (h : numberW z = true) : 0 ≤ dv z ∧ dv z < 10 ^ 10 := by
  obtain ⟨h1, h2, h3⟩ := number_parts h
  refine ⟨Int.natCast_nonneg _, ?_⟩
  have key : ∀ (cs : List Nat) (acc : Nat), (∀ c ∈ cs, c ≤ 57) → cs.foldl (fun acc c => acc * 10 + (c - 48)) acc < (acc + 1) * 10 ^ cs.length := by
    intro cs
    induction cs with
    | nil => intro acc _; simp
    | cons c cs ih =>
      intro acc h
      have h1 := ih (acc * 10 + (c - 48)) (fun d hd => h d (List.mem_cons_of_mem _ hd))
      have h2 := h c List.mem_cons_self
      rw [List.foldl_cons, List.length_cons, Nat.pow_succ']
      refine Nat.lt_of_lt_of_le h1 ?_
      rw [← Nat.mul_assoc]
      exact Nat.mul_le_mul_right _ (by omega)
  have h5 := key (tl z) 0 (fun c hc => (dig_range c (h3 c hc)).2)
  have h6 : (10 : Nat) ^ (tl z).length ≤ 10 ^ 10 := Nat.pow_le_pow_right (by decide) (by rw [← str_len]; exact h2)
  unfold dv NumText.digitsVal
  omega
end W3
namespace W4
open PySem PySem.Spec PyProof.Rows L2 Wy WM W3
theorem tl_app (x y : Str) : tl (x ++ y) = tl x ++ tl y := app_tl x y
theorem ofString_app (a b : String) : Str.ofString (a ++ b) = Str.ofString a ++ Str.ofString b := by
  refine str_ext ?_
  rw [app_tl, Str.ofString_eq_toList, Str.ofString_eq_toList, Str.ofString_eq_toList]
  simp
theorem toStr_neg {i : Int} (h : i < 0) : Str.ofString (toString i) = ("-" : Str) ++ numS (-i).toNat := by
  rw [PyProof.Rows.toString_neg h, ofString_app, toStr_nat (by omega), show 0 - i = -i by omega]
/-- a number's text, of either sign -/
def intS (n : Int) : Str := Str.ofString (toString n)
theorem intS_tl (n : Int) : tl (intS n) = if n < 0 then 45 :: TL.numL (-n).toNat else TL.numL n.toNat := by
  unfold intS
  by_cases h : n < 0
  · rw [if_pos h, toStr_neg h, tl_app, numS_tl]
    rfl
  · rw [if_neg h, toStr_nat (by omega), numS_tl]
theorem intS_len {n : Int} (h : n.natAbs < 10 ^ 10) : (intS n).length ≤ 11 := by
  rw [str_len]
  show (tl (intS n)).length ≤ 11
  rw [intS_tl]
  split
  · rw [List.length_cons]
    have := TL.numL_len (n := (-n).toNat) (k := 10) (by decide) (by omega)
    omega
  · have := TL.numL_len (n := n.toNat) (k := 10) (by decide) (by omega)
    omega
def plusS (p : Int) : Str := if p = 0 then "" else if 0 < p then (" + " : Str) ++ numS p.toNat else (" - " : Str) ++ numS (-p).toNat
def textE : Ex → Str
  | .num n => intS n
  | .var x p => x ++ plusS p
  | .item x i p => x ++ ("[" : Str) ++ textE i ++ ("]" : Str) ++ plusS p
def plusW (p : Int) : List Str := if p = 0 then [] else [if 0 < p then "+" else "-", numS p.natAbs]
def wordsE : Ex → List Str
  | .num n => if n < 0 then ["-", numS (-n).toNat] else [numS n.toNat]
  | .var x p => x :: plusW p
  | .item x i p => [x, ("[" : Str)] ++ wordsE i ++ [("]" : Str)] ++ plusW p
def Plain : Ex → Prop
  | .num n => n.natAbs < 10 ^ 10
  | .var x p => nameW x = true ∧ p.natAbs < 10 ^ 10
  | .item _ _ _ => False
def Good : Ex → Prop
  | .num n => n.natAbs < 10 ^ 10
  | .var x p => nameW x = true ∧ p.natAbs < 10 ^ 10
  | .item x i p => nameW x = true ∧ Plain i ∧ p.natAbs < 10 ^ 10
theorem Plain.good {e : Ex} (h : Plain e) : Good e := by
  cases e with
  | num n => exact h
  | var x p => exact h
  | item x i p => exact h.elim
theorem numS_len10 {n : Nat} (h : n < 10 ^ 10) : (numS n).length ≤ 10 := (numS_len h).2
theorem plusS_len {p : Int} (h : p.natAbs < 10 ^ 10) : (plusS p).length ≤ 13 := by
  unfold plusS
  split
  · exact Nat.zero_le _
  · split
    · rw [app_len]
      have := numS_len10 (n := p.toNat) (by omega)
      show 3 + _ ≤ _
      omega
    · rw [app_len]
      have := numS_len10 (n := (-p).toNat) (by omega)
      show 3 + _ ≤ _
      omega
theorem plain_len {e : Ex} (h : Plain e) : (textE e).length ≤ 30 := by
  cases e with
  | num n =>
    have := intS_len h
    show (intS n).length ≤ 30
    omega
  | var x p =>
    have h1 := (name_parts h.1).2.1
    have h2 := plusS_len h.2
    show (x ++ plusS p).length ≤ 30
    rw [app_len]
    omega
  | item x i p => exact h.elim
theorem good_len {e : Ex} (h : Good e) : (textE e).length ≤ 60 := by
  cases e with
  | num n =>
    have := intS_len h
    show (intS n).length ≤ 60
    omega
  | var x p =>
    have h1 := (name_parts h.1).2.1
    have h2 := plusS_len h.2
    show (x ++ plusS p).length ≤ 60
    rw [app_len]
    omega
  | item x i p =>
    have h1 := (name_parts h.1).2.1
    have h2 := plusS_len h.2.2
    have h3 := plain_len h.2.1
    show (x ++ ("[" : Str) ++ textE i ++ ("]" : Str) ++ plusS p).length ≤ 60
    rw [app_len, app_len, app_len, app_len]
    show _ + 1 + _ + 1 + _ ≤ 60
    omega
/-! ### words with spaces between them -/
def joinsLH (w v : List Nat) : Prop := ∃ a c, w.getLast? = some a ∧ v.head? = some c ∧ joinsC a c
def glue : List (List Nat × Nat) → List Nat
  | [] => []
  | (w, n) :: r => w ++ (List.replicate n 32 ++ glue r)
def GlueOk : List (List Nat × Nat) → Prop
  | [] => True
  | [(w, _)] => IsTok w
  | (w, n) :: (v, m) :: r => IsTok w ∧ (0 < n ∨ ¬ joinsLH w v) ∧ GlueOk ((v, m) :: r)
theorem joins32 {a : Nat} : ¬ joinsC a 32 := by
  rintro (⟨_, h⟩ | ⟨_, h⟩ | ⟨_, h⟩)
  · exact let32 32 h rfl
  · exact (dig32 32 h).1 rfl
  · exact (eqs32 32 h).1 rfl
theorem _root_.WM.IsTok.last {w : List Nat} (h : IsTok w) : ∃ a, w.getLast? = some a := by
  obtain ⟨c, r, e, _⟩ := h.ne
  rw [e, List.getLast?_cons]
  exact ⟨_, rfl⟩
theorem glue_next {w : List Nat} (h : IsTok w) {n : Nat} {rest : List Nat} (k : 0 < n ∨ okNext w rest) : okNext w (List.replicate n 32 ++ rest) := by
  obtain ⟨a, ha⟩ := h.last
  cases n with
  | zero =>
    rcases k with k | k
    · omega
    · exact k
  | succ n =>
    rw [List.replicate_succ]
    exact .inr ⟨a, 32, _, ha, rfl, joins32⟩
theorem lex_glue : ∀ {l : List (List Nat × Nat)}, GlueOk l → lexL (glue l) = some (l.map (·.1))
  | [], _ => rfl
  | [(w, n)], h => by
    have h : IsTok w := h
    show lexL (w ++ (List.replicate n 32 ++ [])) = _
    rw [lexL_tok h, lexL_spaces]
    · rfl
    · refine glue_next h (.inr (.inl rfl))
  | (w, n) :: (v, m) :: r, h => by
    obtain ⟨h1, h2, h3⟩ := h
    show lexL (w ++ (List.replicate n 32 ++ glue ((v, m) :: r))) = _
    rw [lexL_tok h1, lexL_spaces, lex_glue h3]
    · rfl
    · refine glue_next h1 (h2.imp id fun h => ?_)
      have hv : IsTok v := by
        cases r with
        | nil => exact h3
        | cons x r => exact h3.1
      obtain ⟨c, q, e, _⟩ := hv.ne
      obtain ⟨a, ha⟩ := h1.last
      refine .inr ⟨a, c, q ++ (List.replicate m 32 ++ glue r), ha, ?_, fun hj => h ⟨a, c, ha, by rw [e]; rfl, hj⟩⟩
      show v ++ _ = _
      rw [e]
      rfl
/-- a word of a row -/
def Tok (w : Str) : Prop := IsTok (tl w)
theorem words_glue {z : Str} {k : Nat} {l : List (List Nat × Nat)} (h : GlueOk l) (e : tl z = List.replicate k 32 ++ glue l) : wordsW z = some (l.map fun p => mkS p.1) := by
  rw [words_lex, e, lexL_spaces, lex_glue h]
  show some ((l.map (·.1)).map mkS) = _
  rw [List.map_map]
  rfl
theorem tok_name {x : Str} (h : nameW x = true) : Tok x := tok_let (ne_of_len (name_parts h).1) (name_parts h).2.2.2
theorem tok_num (n : Nat) : Tok (numS n) := by
  unfold Tok
  rw [numS_tl]
  exact tok_dig (TL.numL_ne n) fun c hc => dig_mem (TL.numL_digits n c hc)
theorem tok_sho {z : Str} {c : Nat} (e : tl z = [c]) (h : c ∈ tl SHO) : Tok z := by
  unfold Tok
  rw [e]
  exact tok_one h
theorem no_join_sho {w v : List Nat} {c : Nat} (hc : c ∉ tl LET ∧ c ∉ tl DIG ∧ c ∉ EQS) (h : w.getLast? = some c ∨ v.head? = some c) : ¬ joinsLH w v := by
  rintro ⟨a, b, h1, h2, hj⟩
  rcases h with h | h
  · rw [h] at h1
    have h1 := Option.some.inj h1
    subst h1
    rcases hj with ⟨h, _⟩ | ⟨h, _⟩ | ⟨h, _⟩
    · exact hc.1 h
    · exact hc.2.1 h
    · exact hc.2.2 h
  · rw [h] at h2
    have h2 := Option.some.inj h2
    subst h2
    rcases hj with ⟨_, h⟩ | ⟨_, h⟩ | ⟨_, h⟩
    · exact hc.1 h
    · exact hc.2.1 h
    · exact hc.2.2 h
/-! the written form's words -/
def plusG (p : Int) : List (List Nat × Nat) := if p = 0 then [] else [([if 0 < p then 43 else 45], 1), (TL.numL p.natAbs, 0)]
/-- how many spaces stand behind what is ahead of a plus -/
def gapP (p : Int) : Nat := if p = 0 then 0 else 1
def plainG : Ex → List (List Nat × Nat)
  | .num n => if n < 0 then [([45], 0), (TL.numL (-n).toNat, 0)] else [(TL.numL n.toNat, 0)]
  | .var x p => (tl x, gapP p) :: plusG p
  | .item _ _ _ => []
def goodG : Ex → List (List Nat × Nat)
  | .num n => plainG (.num n)
  | .var x p => plainG (.var x p)
  | .item x i p => (tl x, 0) :: ([91], 0) :: (plainG i ++ ([93], gapP p) :: plusG p)
theorem plus_tl (p : Int) : tl (plusS p) = List.replicate (gapP p) 32 ++ glue (plusG p) := by
  unfold plusS gapP plusG
  by_cases h : p = 0
  · rw [if_pos h, if_pos h, if_pos h]
    rfl
  · rw [if_neg h, if_neg h, if_neg h]
    by_cases h2 : 0 < p
    · rw [if_pos h2, if_pos h2, tl_app, numS_tl, show p.toNat = p.natAbs by omega]
      show [32, 43, 32] ++ _ = [32] ++ ([43] ++ ([32] ++ (TL.numL p.natAbs ++ ([] ++ []))))
      simp
    · rw [if_neg h2, if_neg h2, tl_app, numS_tl, show (-p).toNat = p.natAbs by omega]
      show [32, 45, 32] ++ _ = [32] ++ ([45] ++ ([32] ++ (TL.numL p.natAbs ++ ([] ++ []))))
      simp
theorem glue_app : ∀ a b : List (List Nat × Nat), glue (a ++ b) = glue a ++ glue b
  | [], b => rfl
  | (w, n) :: r, b => by
    show w ++ (List.replicate n 32 ++ glue (r ++ b)) = w ++ (List.replicate n 32 ++ glue r) ++ glue b
    rw [glue_app r b]
    simp
theorem plain_tl {e : Ex} (h : Plain e) : tl (textE e) = glue (plainG e) := by
  cases e with
  | num n =>
    show tl (intS n) = glue (if n < 0 then _ else _)
    rw [intS_tl]
    split
    · show _ = [45] ++ ([] ++ (TL.numL (-n).toNat ++ ([] ++ [])))
      simp
    · show _ = TL.numL n.toNat ++ ([] ++ [])
      simp
  | var x p =>
    show tl (x ++ plusS p) = tl x ++ (List.replicate (gapP p) 32 ++ glue (plusG p))
    rw [tl_app]
    show tl x ++ tl (plusS p) = _
    rw [plus_tl]
  | item x i p => exact h.elim
theorem good_tl {e : Ex} (h : Good e) : tl (textE e) = glue (goodG e) := by
  cases e with
  | num n => exact plain_tl (e := .num n) h
  | var x p => exact plain_tl (e := .var x p) h
  | item x i p =>
    show tl (x ++ ("[" : Str) ++ textE i ++ ("]" : Str) ++ plusS p) = tl x ++ ([] ++ ([91] ++ ([] ++ glue (plainG i ++ ([93], gapP p) :: plusG p))))
    rw [tl_app, tl_app, tl_app, tl_app, glue_app]
    show tl x ++ [91] ++ tl (textE i) ++ [93] ++ tl (plusS p) = tl x ++ ([] ++ ([91] ++ ([] ++ (glue (plainG i) ++ ([93] ++ (List.replicate (gapP p) 32 ++ glue (plusG p)))))))
    rw [plain_tl h.2.1, plus_tl]
    simp
theorem tokL (n : Nat) : IsTok (TL.numL n) := by
  have := tok_num n
  unfold Tok at this
  rwa [numS_tl] at this
theorem plusG_ok (p : Int) : GlueOk (plusG p) := by
  unfold plusG
  split
  · trivial
  · refine ⟨?_, .inl (by decide), tokL _⟩
    split
    · exact tok_one (by decide +kernel)
    · exact tok_one (by decide +kernel)
theorem glue_cons {w : List Nat} {n : Nat} {l : List (List Nat × Nat)} (h : IsTok w) (k : ∀ v m r, l = (v, m) :: r → 0 < n ∨ ¬ joinsLH w v) (hl : GlueOk l) : GlueOk ((w, n) :: l) := by
  cases l with
  | nil => exact h
  | cons x r =>
    obtain ⟨v, m⟩ := x
    exact ⟨h, k v m r rfl, hl⟩
theorem plus_behind {w : List Nat} {p : Int} (h : IsTok w) : GlueOk ((w, gapP p) :: plusG p) := by
  refine glue_cons h (fun v m r e => .inl ?_) (plusG_ok p)
  unfold plusG at e
  unfold gapP
  split at e
  · cases e
  · rename_i hp
    rw [if_neg hp]
    decide
theorem plain_glue {e : Ex} (h : Plain e) : GlueOk (plainG e) := by
  cases e with
  | num n =>
    show GlueOk (if n < 0 then _ else _)
    split
    · exact ⟨tok_one (by decide +kernel), .inr (no_join_sho (c := 45) (by decide +kernel) (.inl rfl)), tokL _⟩
    · exact tokL _
  | var x p => exact plus_behind (tok_name h.1)
  | item x i p => exact h.elim
theorem glue_join : ∀ {a : List (List Nat × Nat)} {w : List Nat} {n : Nat} {b : List (List Nat × Nat)}, GlueOk a → (∀ v, ¬ joinsLH v w) → GlueOk ((w, n) :: b) → GlueOk (a ++ (w, n) :: b)
  | [], _, _, _, _, _, h => h
  | [(v, m)], w, n, b, h1, h2, h3 => ⟨h1, .inr (h2 v), h3⟩
  | (v, m) :: (u, k) :: r, w, n, b, h1, h2, h3 => ⟨h1.1, h1.2.1, glue_join (a := (u, k) :: r) h1.2.2 h2 h3⟩
theorem good_glue {e : Ex} (h : Good e) : GlueOk (goodG e) := by
  cases e with
  | num n => exact plain_glue (e := .num n) h
  | var x p => exact plain_glue (e := .var x p) h
  | item x i p =>
    have h91 : ∀ v : List Nat, ¬ joinsLH [91] v := fun v => no_join_sho (c := 91) (by decide +kernel) (.inl rfl)
    refine ⟨tok_name h.1, .inr (no_join_sho (c := 91) (by decide +kernel) (.inr rfl)), ?_⟩
    refine glue_cons (tok_one (by decide +kernel)) (fun v m r _ => .inr (h91 v)) ?_
    exact glue_join (plain_glue h.2.1) (fun v => no_join_sho (c := 93) (by decide +kernel) (.inr rfl)) (plus_behind (tok_one (by decide +kernel)))
theorem mkS_num (n : Nat) : mkS (TL.numL n) = numS n := by rw [← numS_tl, tl_mkS]
theorem plus_words (p : Int) : (plusG p).map (fun q => mkS q.1) = plusW p := by
  unfold plusG plusW
  split
  · rfl
  · split
    · show [mkS [43], mkS (TL.numL _)] = _
      rw [mkS_num]
      rfl
    · show [mkS [45], mkS (TL.numL _)] = _
      rw [mkS_num]
      rfl
theorem plain_words {e : Ex} (h : Plain e) : (plainG e).map (fun q => mkS q.1) = wordsE e := by
  cases e with
  | num n =>
    show (if n < 0 then _ else _ : List (List Nat × Nat)).map _ = if n < 0 then _ else _
    split
    · show [mkS [45], mkS (TL.numL _)] = _
      rw [mkS_num]
      rfl
    · show [mkS (TL.numL _)] = _
      rw [mkS_num]
  | var x p =>
    show mkS (tl x) :: (plusG p).map _ = _
    rw [tl_mkS, plus_words]
    rfl
  | item x i p => exact h.elim
theorem good_words {e : Ex} (h : Good e) : wordsW (textE e) = some (wordsE e) := by
  rw [words_glue (k := 0) (good_glue h) (by rw [good_tl h]; rfl)]
  congr 1
  cases e with
  | num n => exact plain_words (e := .num n) h
  | var x p => exact plain_words (e := .var x p) h
  | item x i p =>
    show mkS (tl x) :: mkS [91] :: (plainG i ++ ([93], gapP p) :: plusG p).map _ = _
    rw [tl_mkS, List.map_append, plain_words h.2.1, List.map_cons, plus_words]
    show _ = [x, ("[" : Str)] ++ wordsE i ++ [("]" : Str)] ++ plusW p
    simp
    exact ⟨rfl, rfl⟩
end W4
namespace W5
open PySem PySem.Spec PyProof.Rows L2 Wy WM W3 W4
/-! ### read back -/
theorem wordAt_pre (pre l : List Str) (k : Nat) : wordAt (pre ++ l) (pre.length + k) = wordAt l k := by
  unfold wordAt
  rw [List.getD_eq_getElem?_getD, List.getD_eq_getElem?_getD, List.getElem?_append_right (by omega), Nat.add_sub_cancel_left]
def NoSign (suf : List Str) : Prop := wordAt suf 0 ≠ "+" ∧ wordAt suf 0 ≠ "-"
theorem natAbs_lt {p : Int} (h : p.natAbs < 10 ^ 10) : numberW (numS p.natAbs) = true := numS_number h
theorem plus_read {pre suf : List Str} {p : Int} (h : p.natAbs < 10 ^ 10) (hs : NoSign suf) : takePlus (pre ++ (plusW p ++ suf)) pre.length = some (p, pre.length + (plusW p).length) := by
  have h0 := wordAt_pre pre (plusW p ++ suf) 0
  have h1 := wordAt_pre pre (plusW p ++ suf) 1
  rw [Nat.add_zero] at h0
  unfold takePlus
  rw [h0, h1]
  unfold plusW
  by_cases hp : p = 0
  · rw [if_pos hp, List.nil_append, if_neg (fun h => h.elim hs.1 hs.2), hp]
    rfl
  · rw [if_neg hp]
    have e1 : wordAt ([if 0 < p then ("+" : Str) else "-", numS p.natAbs] ++ suf) 0 = if 0 < p then ("+" : Str) else "-" := rfl
    have e2 : wordAt ([if 0 < p then ("+" : Str) else "-", numS p.natAbs] ++ suf) 1 = numS p.natAbs := rfl
    rw [e1, e2, natAbs_lt h, numS_dv]
    by_cases h2 : 0 < p
    · rw [if_pos h2, if_pos (.inl rfl), if_pos rfl, if_pos rfl, show ((p.natAbs : Nat) : Int) = p by omega]
      rfl
    · rw [if_neg h2, if_pos (.inr rfl), if_pos rfl, if_neg (by decide +kernel), show -((p.natAbs : Nat) : Int) = p by omega]
      rfl
theorem num_not_name (n : Nat) (h : n < 10 ^ 10) : nameW (numS n) = false := by
  cases e : nameW (numS n) with
  | false => rfl
  | true =>
    have := name_not_number e
    rw [numS_number h] at this
    cases this
theorem plain_read {pre suf : List Str} {e : Ex} (h : Plain e) (hs : NoSign suf) : takePlain (pre ++ (wordsE e ++ suf)) pre.length = some (e, pre.length + (wordsE e).length) := by
  have h0 := wordAt_pre pre (wordsE e ++ suf) 0
  have h1 := wordAt_pre pre (wordsE e ++ suf) 1
  rw [Nat.add_zero] at h0
  unfold takePlain
  cases e with
  | num n =>
    have hn : n.natAbs < 10 ^ 10 := h
    unfold takeSigned
    rw [h0, h1]
    by_cases hneg : n < 0
    · have e0 : wordsE (.num n) = [("-" : Str), numS (-n).toNat] := if_pos hneg
      rw [e0]
      have e1 : wordAt ([("-" : Str), numS (-n).toNat] ++ suf) 0 = "-" := rfl
      have e2 : wordAt ([("-" : Str), numS (-n).toNat] ++ suf) 1 = numS (-n).toNat := rfl
      rw [e1, e2, if_neg (by decide +kernel), if_neg (by decide +kernel), numS_number (n := (-n).toNat) (by omega), if_pos ⟨rfl, rfl⟩, numS_dv, show -(((-n).toNat : Nat) : Int) = n by omega]
      rfl
    · have e0 : wordsE (.num n) = [numS n.toNat] := if_neg hneg
      rw [e0]
      have e1 : wordAt ([numS n.toNat] ++ suf) 0 = numS n.toNat := rfl
      rw [e1, num_not_name n.toNat (by omega), if_neg Bool.false_ne_true, numS_number (n := n.toNat) (by omega), if_pos rfl, numS_dv, show ((n.toNat : Nat) : Int) = n by omega]
      rfl
  | var x p =>
    have e1 : wordAt (wordsE (.var x p) ++ suf) 0 = x := rfl
    have e2 := plus_read (pre := pre ++ [x]) h.2 hs
    have e3 : pre ++ (wordsE (.var x p) ++ suf) = pre ++ [x] ++ (plusW p ++ suf) := by
      show pre ++ (x :: plusW p ++ suf) = _
      simp
    rw [h0, e1, h.1, if_pos rfl, e3, show pre.length + 1 = (pre ++ [x]).length by simp, e2]
    show some (Ex.var x p, (pre ++ [x]).length + (plusW p).length) = some (Ex.var x p, pre.length + (x :: plusW p).length)
    rw [List.length_append, List.length_cons, List.length_cons, List.length_nil]
    congr 2
    omega
  | item x i p => exact h.elim
theorem noSign_nil : NoSign [] := by
  constructor <;> decide +kernel
theorem read_good {e : Ex} (h : Good e) : readW (wordsE e) = some e := by
  have pl : ∀ e : Ex, Plain e → (¬ (nameW (wordAt (wordsE e) 0) = true ∧ wordAt (wordsE e) 1 = "[")) → readW (wordsE e) = some e := fun e h hn => by
    have h1 := plain_read (pre := []) h noSign_nil
    rw [List.nil_append, List.append_nil, List.length_nil, Nat.zero_add] at h1
    unfold readW takeExpr
    rw [if_neg hn, h1]
    exact if_pos rfl
  cases e with
  | num n =>
    refine pl _ h fun hh => ?_
    have hn : n.natAbs < 10 ^ 10 := h
    by_cases hneg : n < 0
    · have e0 : wordsE (.num n) = [("-" : Str), numS (-n).toNat] := if_pos hneg
      rw [e0] at hh
      have : nameW ("-" : Str) = true := hh.1
      revert this
      decide +kernel
    · have e0 : wordsE (.num n) = [numS n.toNat] := if_neg hneg
      rw [e0] at hh
      have : nameW (numS n.toNat) = true := hh.1
      rw [num_not_name n.toNat (by omega)] at this
      cases this
  | var x p =>
    refine pl _ h fun hh => ?_
    have hb : wordAt (x :: plusW p) 1 = "[" := hh.2
    unfold plusW at hb
    split at hb
    · revert hb
      show wordAt [x] 1 = _ → _
      rw [show wordAt [x] 1 = "" from rfl]
      decide +kernel
    · have hb : (if 0 < p then ("+" : Str) else "-") = "[" := hb
      split at hb
      · revert hb
        decide +kernel
      · revert hb
        decide +kernel
  | item x i p =>
    have e0 : wordsE (.item x i p) = [x, ("[" : Str)] ++ (wordsE i ++ (("]" : Str) :: plusW p)) := by
      show [x, ("[" : Str)] ++ wordsE i ++ [("]" : Str)] ++ plusW p = _
      simp
    have h1 := plain_read (pre := [x, ("[" : Str)]) (suf := ("]" : Str) :: plusW p) h.2.1 (by constructor <;> (show ("]" : Str) ≠ _; decide +kernel))
    have h2 := plus_read (pre := [x, ("[" : Str)] ++ wordsE i ++ [("]" : Str)]) (suf := []) h.2.2 noSign_nil
    have h3 := wordAt_pre ([x, ("[" : Str)] ++ wordsE i) (("]" : Str) :: plusW p) 0
    have e3 : [x, ("[" : Str)] ++ wordsE i ++ [("]" : Str)] ++ (plusW p ++ []) = [x, ("[" : Str)] ++ (wordsE i ++ (("]" : Str) :: plusW p)) := by simp
    have e4 : [x, ("[" : Str)] ++ wordsE i ++ (("]" : Str) :: plusW p) = [x, ("[" : Str)] ++ (wordsE i ++ (("]" : Str) :: plusW p)) := by simp
    rw [e3] at h2
    rw [e4, Nat.add_zero] at h3
    have l1 : ([x, ("[" : Str)] ++ wordsE i).length = 2 + (wordsE i).length := by
      rw [List.length_append]
      rfl
    have l2 : ([x, ("[" : Str)] ++ wordsE i ++ [("]" : Str)]).length = 2 + (wordsE i).length + 1 := by
      rw [List.length_append, l1]
      rfl
    rw [l2] at h2
    rw [l1] at h3
    unfold readW takeExpr
    rw [e0]
    rw [if_pos (show nameW (wordAt ([x, ("[" : Str)] ++ (wordsE i ++ (("]" : Str) :: plusW p))) 0) = true ∧ wordAt ([x, ("[" : Str)] ++ (wordsE i ++ (("]" : Str) :: plusW p))) (0 + 1) = "[" from ⟨h.1, rfl⟩)]
    rw [show takePlain ([x, ("[" : Str)] ++ (wordsE i ++ (("]" : Str) :: plusW p))) (0 + 2) = some (i, 2 + (wordsE i).length) from h1]
    show wholeE (if wordAt _ (2 + (wordsE i).length) = "]" then _ else none) _ = _
    rw [h3, if_pos (show wordAt (("]" : Str) :: plusW p) 0 = "]" from rfl), h2]
    show (if _ = _ then some (Ex.item (wordAt ([x, ("[" : Str)] ++ _) 0) i p) else none) = _
    rw [if_pos (by simp only [List.length_append, List.length_cons, List.length_nil]; omega)]
    rfl
/-! ### a sign that belongs to no word -/
def OKC (c : Nat) : Prop := c ∈ tl LET ∨ c ∈ tl DIG ∨ c ∈ tl SHO ∨ c = 32
theorem tw_mem {p : Nat → Bool} : ∀ {l : List Nat} {d : Nat}, d ∈ l.takeWhile p → p d = true
  | [], _, h => by cases h
  | c :: r, d, h => by
    rw [List.takeWhile_cons] at h
    split at h
    · rename_i h1
      rcases List.mem_cons.mp h with e | h
      · rw [e]
        exact h1
      · exact tw_mem h
    · cases h
theorem lex_bad : ∀ {k : Nat} {l : List Nat}, l.length ≤ k → 61 ∉ l → (∃ c ∈ l, ¬ OKC c) → lexL l = none
  | 0, l, h, _, ⟨c, hc, _⟩ => by
    have e : l = [] := List.length_eq_zero_iff.mp (by omega)
    rw [e] at hc
    cases hc
  | k + 1, [], _, _, ⟨c, hc, _⟩ => by cases hc
  | k + 1, c :: r, h, h61, ⟨b, hb, nb⟩ => by
    rw [List.length_cons] at h
    by_cases hs : c = 32
    · rw [hs, lexL_space]
      refine lex_bad (k := k) (by omega) (fun z => h61 (List.mem_cons_of_mem _ z)) ?_
      rcases List.mem_cons.mp hb with e | hb
      · exact absurd (.inr (.inr (.inr (e.trans hs)))) nb
      · exact ⟨b, hb, nb⟩
    · rw [lexL_word hs]
      split
      · rfl
      · rename_i hw
        have hok : ∀ d ∈ (c :: r).take (wordLen (c :: r)), OKC d := by
          have tw : ∀ (p : List Nat) (n : Nat), n = 1 + (r.takeWhile fun d => decide (d ∈ p)).length → c ∈ p → ∀ d ∈ (c :: r).take n, d ∈ p := fun p n hn hc d hd => by
            rw [hn, Nat.add_comm, List.take_succ_cons] at hd
            rcases List.mem_cons.mp hd with e | hd
            · rw [e]
              exact hc
            · have e : r.take (r.takeWhile fun d => decide (d ∈ p)).length = r.takeWhile fun d => decide (d ∈ p) := by
                have := List.takeWhile_prefix (fun d => decide (d ∈ p)) (l := r)
                exact (List.prefix_iff_eq_take.mp this).symm
              rw [e] at hd
              simpa using tw_mem hd
          rw [wordLen_cons]
          intro d hd
          split at hd
          · rename_i h1
            exact .inl (tw _ _ rfl h1 d hd)
          · split at hd
            · rename_i h1
              exact .inr (.inl (tw _ _ rfl h1 d hd))
            · split at hd
              · rename_i h1
                exact absurd (List.mem_cons_of_mem _ (List.mem_of_head? h1.1)) h61
              · split at hd
                · rename_i h1
                  have e : d = c := by simpa using hd
                  exact .inr (.inr (.inl (e ▸ h1)))
                · cases hd
        have hd : ((c :: r).drop (wordLen (c :: r))).length ≤ k := by
          rw [List.length_drop, List.length_cons]
          omega
        rw [lex_bad hd (fun z => h61 (List.mem_of_mem_drop z)) ?_]
        · rfl
        · rw [← List.take_append_drop (wordLen (c :: r)) (c :: r)] at hb
          rcases List.mem_append.mp hb with hb | hb
          · exact absurd (hok b hb) nb
          · exact ⟨b, hb, nb⟩
theorem words_bad {z : Str} (h : 61 ∉ tl z) (b : ∃ c ∈ tl z, ¬ OKC c) : wordsW z = none := by
  rw [words_lex, lex_bad (Nat.le_refl _) h b]
  rfl
end W5
namespace W7
open PySem PySem.Spec PyProof.Rows L2 Wy WM W3 W4 W5
/-! ### an expression among other words -/
theorem wordAt_app0 {a : Str} {l : List Str} : wordAt (a :: l) 0 = a := rfl
theorem expr_read {pre suf : List Str} {e : Ex} (h : Good e) (hs : NoSign suf) (hb : wordAt suf 0 ≠ "[") : takeExpr (pre ++ (wordsE e ++ suf)) pre.length = some (e, pre.length + (wordsE e).length) := by
  have h0 := wordAt_pre pre (wordsE e ++ suf) 0
  have h1 := wordAt_pre pre (wordsE e ++ suf) 1
  rw [Nat.add_zero] at h0
  cases e with
  | num n =>
    have hp : Plain (.num n) := h
    unfold takeExpr
    rw [if_neg, plain_read hp hs]
    rintro ⟨hn, _⟩
    rw [h0] at hn
    have hn' : n.natAbs < 10 ^ 10 := h
    by_cases hneg : n < 0
    · have e0 : wordsE (.num n) = [("-" : Str), numS (-n).toNat] := if_pos hneg
      rw [e0] at hn
      have : nameW ("-" : Str) = true := hn
      revert this
      decide +kernel
    · have e0 : wordsE (.num n) = [numS n.toNat] := if_neg hneg
      rw [e0] at hn
      have : nameW (numS n.toNat) = true := hn
      rw [num_not_name n.toNat (by omega)] at this
      cases this
  | var x p =>
    have hp : Plain (.var x p) := h
    unfold takeExpr
    rw [if_neg, plain_read hp hs]
    rintro ⟨_, hk⟩
    rw [h1] at hk
    have hk : wordAt (plusW p ++ suf) 0 = "[" := hk
    unfold plusW at hk
    split at hk
    · exact hb hk
    · have hk : (if 0 < p then ("+" : Str) else "-") = "[" := hk
      split at hk
      · revert hk
        decide +kernel
      · revert hk
        decide +kernel
  | item x i p =>
    have e0 : wordsE (.item x i p) ++ suf = x :: ("[" : Str) :: (wordsE i ++ (("]" : Str) :: (plusW p ++ suf))) := by
      show [x, ("[" : Str)] ++ wordsE i ++ [("]" : Str)] ++ plusW p ++ suf = _
      simp
    have l0 : (wordsE (.item x i p)).length = 3 + (wordsE i).length + (plusW p).length := by
      show ([x, ("[" : Str)] ++ wordsE i ++ [("]" : Str)] ++ plusW p).length = _
      simp only [List.length_append, List.length_cons, List.length_nil]
      omega
    rw [e0] at h0 h1 ⊢
    have q1 := plain_read (pre := pre ++ [x, ("[" : Str)]) (suf := ("]" : Str) :: (plusW p ++ suf)) h.2.1 (by constructor <;> (show ("]" : Str) ≠ _; decide +kernel))
    have q2 := plus_read (pre := pre ++ [x, ("[" : Str)] ++ wordsE i ++ [("]" : Str)]) (suf := suf) h.2.2 hs
    have q3 := wordAt_pre (pre ++ [x, ("[" : Str)] ++ wordsE i) (("]" : Str) :: (plusW p ++ suf)) 0
    have r1 : pre ++ [x, ("[" : Str)] ++ (wordsE i ++ (("]" : Str) :: (plusW p ++ suf))) = pre ++ x :: ("[" : Str) :: (wordsE i ++ (("]" : Str) :: (plusW p ++ suf))) := by simp
    have r2 : pre ++ [x, ("[" : Str)] ++ wordsE i ++ [("]" : Str)] ++ (plusW p ++ suf) = pre ++ x :: ("[" : Str) :: (wordsE i ++ (("]" : Str) :: (plusW p ++ suf))) := by simp
    have r3 : pre ++ [x, ("[" : Str)] ++ wordsE i ++ (("]" : Str) :: (plusW p ++ suf)) = pre ++ x :: ("[" : Str) :: (wordsE i ++ (("]" : Str) :: (plusW p ++ suf))) := by simp
    have l1 : (pre ++ [x, ("[" : Str)]).length = pre.length + 2 := by simp
    have l2 : (pre ++ [x, ("[" : Str)] ++ wordsE i).length = pre.length + 2 + (wordsE i).length := by simp only [List.length_append, List.length_cons, List.length_nil]
    have l3 : (pre ++ [x, ("[" : Str)] ++ wordsE i ++ [("]" : Str)]).length = pre.length + 2 + (wordsE i).length + 1 := by simp only [List.length_append, List.length_cons, List.length_nil]
    rw [r1, l1] at q1
    rw [r2, l3] at q2
    rw [r3, l2, Nat.add_zero] at q3
    unfold takeExpr
    rw [h0, h1, if_pos ⟨h.1, rfl⟩, q1]
    show (if wordAt _ (pre.length + 2 + (wordsE i).length) = "]" then _ else none) = _
    rw [q3, if_pos (show wordAt (("]" : Str) :: (plusW p ++ suf)) 0 = "]" from rfl), q2]
    show some (Ex.item _ i p, _) = _
    rw [l0]
    congr 2
    omega
/-! ### conditions -/
abbrev SIG : List Str := ["<", "<=", ">", ">=", "==", "!="]
inductive Cd where
  | cmp (s : Str) (l r : Ex)
  | no (c : Cd)
  | jn (o : Bool) (cs : List Cd)
abbrev jw (o : Bool) : Str := if o then "or" else "and"
mutual
def Cd.d : Cd → PyData
  | .cmp s l r => .tuple [.str "cmp", .str s, l.d, r.d]
  | .no c => .tuple [.str "not", c.d]
  | .jn o cs => .tuple [.str (jw o), .tuple (Cd.ds cs)]
def Cd.ds : List Cd → List PyData
  | [] => []
  | c :: cs => c.d :: Cd.ds cs
end
/-! ### reading them, word by word -/
def takeCmp (ws : List Str) (i : Nat) : Option (Cd × Nat) := match takeExpr ws i with
  | none => none
  | some (l, j) => if wordAt ws j ∈ SIG then (match takeExpr ws (j + 1) with | none => none | some (r, k) => some (.cmp (wordAt ws j) l r, k)) else none
def loopJ (ws : List Str) (take : Nat → Option (Cd × Nat)) (word : Str) : Nat → Nat → Option (List Cd × Nat)
  | 0, _ => none
  | f + 1, i => match take i with
    | none => none
    | some (c, j) => if wordAt ws j = word then (match loopJ ws take word f (j + 1) with | none => none | some (cs, k) => some (c :: cs, k)) else some ([c], j)
def joinOf (o : Bool) : List Cd → Cd
  | [c] => c
  | cs => .jn o cs
def takeJ (ws : List Str) (take : Nat → Option (Cd × Nat)) (o : Bool) (i : Nat) : Option (Cd × Nat) := (loopJ ws take (jw o) (ws.length + 1) i).map fun p => (joinOf o p.1, p.2)
/-- an operand, with so many to be opened yet -/
def opnd (ws : List Str) : Nat → Nat → Option (Cd × Nat)
  | 0, i => if wordAt ws i = "not" ∨ wordAt ws i = "(" then none else takeCmp ws i
  | n + 1, i => if wordAt ws i = "not" then (opnd ws n (i + 1)).map fun p => (.no p.1, p.2)
    else if wordAt ws i = "(" then (match takeJ ws (takeJ ws (opnd ws n) false) true (i + 1) with | none => none | some (c, j) => if wordAt ws j = ")" then some (c, j + 1) else none)
    else takeCmp ws i
def takeAnd (ws : List Str) (n i : Nat) : Option (Cd × Nat) := takeJ ws (opnd ws n) false i
def takeOr (ws : List Str) (n i : Nat) : Option (Cd × Nat) := takeJ ws (takeAnd ws n) true i
def wholeC (t : Option (Cd × Nat)) (n : Nat) : Option Cd := match t with
  | none => none
  | some (c, j) => if j = n then some c else none
def readC (ws : List Str) : Option Cd := wholeC (takeOr ws 8 0) ws.length
/-! ### conditions dressed with pairs -/
def okIn : Bool → Cd → Prop
  | false, .jn _ _ => False
  | true, .jn true _ => False
  | _, _ => True
def seps (o : Bool) : List (List Str) → List Str
  | [] => []
  | [w] => w
  | w :: v :: r => w ++ (jw o :: seps o (v :: r))
mutual
inductive Dr : Cd → Nat → List Str → Nat → Prop
  | par {c : Cd} {p : Nat} {w : List Str} {d : Nat} : Dr c p w d → Dr c (p + 1) (("(" : Str) :: (w ++ [(")" : Str)])) (d + 1)
  | cmp {s : Str} {l r : Ex} : s ∈ SIG → Good l → Good r → Dr (.cmp s l r) 0 (wordsE l ++ (s :: wordsE r)) 0
  | no {c : Cd} {q : Nat} {w : List Str} {d : Nat} : Dr c q w d → (1 ≤ q ∨ okIn false c) → Dr (.no c) 0 (("not" : Str) :: w) (d + 1)
  | jn {o : Bool} {cs : List Cd} {ws : List (List Str)} {d : Nat} : 2 ≤ cs.length → DrAll o cs ws d → Dr (.jn o cs) 0 (seps o ws) d
inductive DrAll : Bool → List Cd → List (List Str) → Nat → Prop
  | nil {o : Bool} : DrAll o [] [] 0
  | cons {o : Bool} {c : Cd} {cs : List Cd} {q : Nat} {w : List Str} {ws : List (List Str)} {d e : Nat} : Dr c q w d → (1 ≤ q ∨ okIn o c) → DrAll o cs ws e → DrAll o (c :: cs) (w :: ws) (max d e)
end
def Sf (suf : List Str) : Prop := NoSign suf ∧ wordAt suf 0 ≠ "["
theorem sf_sig {s : Str} (h : s ∈ SIG) (l : List Str) : Sf (s :: l) := by
  have : ∀ s ∈ SIG, s ≠ "+" ∧ s ≠ "-" ∧ s ≠ "[" := by decide +kernel
  exact ⟨⟨(this s h).1, (this s h).2.1⟩, (this s h).2.2⟩
theorem sf_jw (o : Bool) (l : List Str) : Sf (jw o :: l) := by
  have : ∀ o : Bool, jw o ≠ "+" ∧ jw o ≠ "-" ∧ jw o ≠ "[" := by decide +kernel
  exact ⟨⟨(this o).1, (this o).2.1⟩, (this o).2.2⟩
theorem sf_par (l : List Str) : Sf ((")" : Str) :: l) := by
  have : (")" : Str) ≠ "+" ∧ (")" : Str) ≠ "-" ∧ (")" : Str) ≠ "[" := by decide +kernel
  exact ⟨⟨this.1, this.2.1⟩, this.2.2⟩
theorem first_word {e : Ex} (h : Good e) (l : List Str) : wordAt (wordsE e ++ l) 0 ≠ "not" ∧ wordAt (wordsE e ++ l) 0 ≠ "(" := by
  have nm : ∀ x : Str, nameW x = true → x ≠ "not" ∧ x ≠ "(" := fun x hx => by
    have h1 : nameW ("not" : Str) = false := by decide +kernel
    have h2 : nameW ("(" : Str) = false := by decide +kernel
    exact ⟨fun z => (by rw [z, h1] at hx; cases hx), fun z => (by rw [z, h2] at hx; cases hx)⟩
  have nu : ∀ x : Str, numberW x = true → x ≠ "not" ∧ x ≠ "(" := fun x hx => by
    have h1 : numberW ("not" : Str) = false := by decide +kernel
    have h2 : numberW ("(" : Str) = false := by decide +kernel
    exact ⟨fun z => (by rw [z, h1] at hx; cases hx), fun z => (by rw [z, h2] at hx; cases hx)⟩
  cases e with
  | num n =>
    have hn : n.natAbs < 10 ^ 10 := h
    by_cases hneg : n < 0
    · have e0 : wordsE (.num n) = [("-" : Str), numS (-n).toNat] := if_pos hneg
      rw [e0]
      show ("-" : Str) ≠ "not" ∧ ("-" : Str) ≠ "("
      decide +kernel
    · have e0 : wordsE (.num n) = [numS n.toNat] := if_neg hneg
      rw [e0]
      exact nu _ (numS_number (by omega))
  | var x p => exact nm x h.1
  | item x i p => exact nm x h.1
theorem cmp_read {pre suf : List Str} {s : Str} {l r : Ex} (hs : s ∈ SIG) (gl : Good l) (gr : Good r) (hf : Sf suf) :
    takeCmp (pre ++ ((wordsE l ++ (s :: wordsE r)) ++ suf)) pre.length = some (.cmp s l r, pre.length + (wordsE l ++ (s :: wordsE r)).length) := by
  have q1 := expr_read (pre := pre) (suf := s :: (wordsE r ++ suf)) gl (sf_sig hs _).1 (sf_sig hs _).2
  have q2 := expr_read (pre := pre ++ wordsE l ++ [s]) (suf := suf) gr hf.1 hf.2
  have q3 := wordAt_pre (pre ++ wordsE l) (s :: (wordsE r ++ suf)) 0
  have r1 : pre ++ ((wordsE l ++ (s :: wordsE r)) ++ suf) = pre ++ (wordsE l ++ (s :: (wordsE r ++ suf))) := by simp
  have r2 : pre ++ wordsE l ++ [s] ++ (wordsE r ++ suf) = pre ++ (wordsE l ++ (s :: (wordsE r ++ suf))) := by simp
  have r3 : pre ++ wordsE l ++ (s :: (wordsE r ++ suf)) = pre ++ (wordsE l ++ (s :: (wordsE r ++ suf))) := by simp
  have l2 : (pre ++ wordsE l ++ [s]).length = pre.length + (wordsE l).length + 1 := by simp only [List.length_append, List.length_cons, List.length_nil]
  have l3 : (pre ++ wordsE l).length = pre.length + (wordsE l).length := List.length_append ..
  rw [r2, l2] at q2
  rw [r3, l3, Nat.add_zero] at q3
  rw [r1]
  unfold takeCmp
  rw [q1]
  show (if wordAt _ (pre.length + (wordsE l).length) ∈ SIG then _ else none) = _
  rw [q3, show wordAt (s :: (wordsE r ++ suf)) 0 = s from rfl, if_pos hs, q2]
  show some (Cd.cmp s l r, _) = _
  rw [List.length_append, List.length_cons]
  congr 2
  omega
theorem takeJ_one {W : List Str} {take : Nat → Option (Cd × Nat)} {o : Bool} {i j : Nat} {c : Cd} (h : take i = some (c, j)) (hn : wordAt W j ≠ jw o) : takeJ W take o i = some (c, j) := by
  unfold takeJ loopJ
  rw [h]
  show (if wordAt W j = jw o then _ else some ([c], j) : Option (List Cd × Nat)).map _ = _
  rw [if_neg hn]
  rfl
theorem takeJ_none {W : List Str} {take : Nat → Option (Cd × Nat)} {o : Bool} {i : Nat} (h : take i = none) : takeJ W take o i = none := by
  unfold takeJ loopJ
  rw [h]
  rfl
def tk (W : List Str) (n : Nat) : Bool → Nat → Option (Cd × Nat)
  | false => opnd W n
  | true => takeAnd W n
def RA (c : Cd) (p : Nat) (w : List Str) (d : Nat) : Prop := (1 ≤ p ∨ okIn false c) → ∀ n pre suf, Sf suf → opnd (pre ++ (w ++ suf)) n pre.length = if d ≤ n then some (c, pre.length + w.length) else none
def RB (c : Cd) (p : Nat) (w : List Str) (d : Nat) : Prop := (1 ≤ p ∨ okIn true c) → ∀ n pre suf, Sf suf → wordAt suf 0 ≠ "and" → takeAnd (pre ++ (w ++ suf)) n pre.length = if d ≤ n then some (c, pre.length + w.length) else none
def RC (c : Cd) (w : List Str) (d : Nat) : Prop := ∀ n pre suf, Sf suf → wordAt suf 0 ≠ "and" → wordAt suf 0 ≠ "or" → takeOr (pre ++ (w ++ suf)) n pre.length = if d ≤ n then some (c, pre.length + w.length) else none
theorem behind (pre w suf : List Str) : wordAt (pre ++ (w ++ suf)) (pre.length + w.length) = wordAt suf 0 := by
  have := wordAt_pre (pre ++ w) suf 0
  rw [List.append_assoc, List.length_append, Nat.add_zero] at this
  exact this
theorem rb_of {c : Cd} {p : Nat} {w : List Str} {d : Nat} (a : RA c p w d) (h : 1 ≤ p ∨ okIn false c) : RB c p w d := fun _ n pre suf hf h1 => by
  have q := a h n pre suf hf
  unfold takeAnd
  by_cases hd : d ≤ n
  · rw [if_pos hd] at q ⊢
    exact takeJ_one q (by rw [behind]; exact h1)
  · rw [if_neg hd] at q ⊢
    exact takeJ_none q
theorem rc_of {c : Cd} {p : Nat} {w : List Str} {d : Nat} (b : RB c p w d) (h : 1 ≤ p ∨ okIn true c) : RC c w d := fun n pre suf hf h1 h2 => by
  have q := b h n pre suf hf h1
  unfold takeOr
  by_cases hd : d ≤ n
  · rw [if_pos hd] at q ⊢
    exact takeJ_one q (by rw [behind]; exact h2)
  · rw [if_neg hd] at q ⊢
    exact takeJ_none q
theorem dr_len : ∀ {c : Cd} {p : Nat} {w : List Str} {d : Nat}, Dr c p w d → 1 ≤ w.length
  | _, _, _, _, .par _ => by simp
  | _, _, _, _, .cmp _ _ _ => by simp only [List.length_append, List.length_cons]; omega
  | _, _, _, _, .no _ _ => by simp
  | _, _, _, _, .jn h (.cons (ws := ws) h1 _ h2) => by
    have := dr_len h1
    cases ws with
    | nil => exact this
    | cons v r => simp only [seps, List.length_append, List.length_cons]; omega
  | _, _, _, _, .jn h .nil => absurd h (by decide)
theorem seps_len {o : Bool} : ∀ {cs : List Cd} {ws : List (List Str)} {d : Nat}, DrAll o cs ws d → cs.length ≤ (seps o ws).length
  | _, _, _, .nil => Nat.zero_le _
  | _, _, _, .cons (ws := ws) h1 _ h2 => by
    have q := dr_len h1
    have r := seps_len h2
    cases ws with
    | nil =>
      cases h2
      exact q
    | cons v r' => simp only [seps, List.length_append, List.length_cons] at r ⊢; omega
def RR (c : Cd) (p : Nat) (w : List Str) (d : Nat) : Prop := RA c p w d ∧ RB c p w d ∧ RC c w d
def MS (o : Bool) (cs : List Cd) (ws : List (List Str)) (d : Nat) : Prop := ∀ (n : Nat) (pre suf : List Str) (f : Nat), cs ≠ [] → Sf suf → wordAt suf 0 ≠ jw o → (o = true → wordAt suf 0 ≠ "and") → cs.length ≤ f →
    loopJ (pre ++ (seps o ws ++ suf)) (tk (pre ++ (seps o ws ++ suf)) n o) (jw o) f pre.length = if d ≤ n then some (cs, pre.length + (seps o ws).length) else none
theorem m_par {c : Cd} {p : Nat} {w : List Str} {d : Nat} (hr : RR c p w d) : RR c (p + 1) (("(" : Str) :: (w ++ [(")" : Str)])) (d + 1) := by
    have hc := hr.2.2
    have a : RA c (p + 1) (("(" : Str) :: (w ++ [(")" : Str)])) (d + 1) := fun _ n pre suf hf => by
      have h0 := wordAt_pre pre ((("(" : Str) :: (w ++ [(")" : Str)])) ++ suf) 0
      rw [Nat.add_zero, show wordAt ((("(" : Str) :: (w ++ [(")" : Str)])) ++ suf) 0 = "(" from rfl] at h0
      cases n with
      | zero =>
        rw [if_neg (by omega)]
        unfold opnd
        rw [h0, if_pos (.inr rfl)]
      | succ n =>
        have q := hc n (pre ++ [("(" : Str)]) ((")" : Str) :: suf) (sf_par _) (by show (")" : Str) ≠ "and"; decide +kernel) (by show (")" : Str) ≠ "or"; decide +kernel)
        have b := behind (pre ++ [("(" : Str)]) w ((")" : Str) :: suf)
        have r1 : pre ++ [("(" : Str)] ++ (w ++ ((")" : Str) :: suf)) = pre ++ ((("(" : Str) :: (w ++ [(")" : Str)])) ++ suf) := by simp
        have l1 : (pre ++ [("(" : Str)]).length = pre.length + 1 := by simp
        rw [r1, l1] at q b
        have l2 : ((("(" : Str) :: (w ++ [(")" : Str)]))).length = w.length + 2 := by simp
        unfold opnd
        rw [h0, if_neg (by decide +kernel), if_pos rfl]
        have q : takeJ (pre ++ ((("(" : Str) :: (w ++ [(")" : Str)])) ++ suf)) (takeJ (pre ++ ((("(" : Str) :: (w ++ [(")" : Str)])) ++ suf)) (opnd (pre ++ ((("(" : Str) :: (w ++ [(")" : Str)])) ++ suf)) n) false) true (pre.length + 1) = if d ≤ n then some (c, pre.length + 1 + w.length) else none := q
        rw [q]
        by_cases hd : d ≤ n
        · rw [if_pos hd, if_pos (by omega)]
          show (if wordAt _ (pre.length + 1 + w.length) = ")" then _ else none) = _
          rw [b, show wordAt ((")" : Str) :: suf) 0 = ")" from rfl, if_pos rfl, l2]
          congr 2
          omega
        · rw [if_neg hd, if_neg (by omega)]
    have b := rb_of a (.inl (by omega))
    exact ⟨a, b, rc_of b (.inl (by omega))⟩
theorem m_cmp {s : Str} {l r : Ex} (hs : s ∈ SIG) (gl : Good l) (gr : Good r) : RR (.cmp s l r) 0 (wordsE l ++ (s :: wordsE r)) 0 := by
    have a : RA (.cmp s l r) 0 (wordsE l ++ (s :: wordsE r)) 0 := fun _ n pre suf hf => by
      have h0 := wordAt_pre pre ((wordsE l ++ (s :: wordsE r)) ++ suf) 0
      have e0 : (wordsE l ++ (s :: wordsE r)) ++ suf = wordsE l ++ ((s :: wordsE r) ++ suf) := List.append_assoc ..
      rw [Nat.add_zero] at h0
      have f := first_word gl ((s :: wordsE r) ++ suf)
      rw [← e0, ← h0] at f
      rw [if_pos (Nat.zero_le n)]
      cases n with
      | zero =>
        unfold opnd
        rw [if_neg (fun z => z.elim f.1 f.2)]
        exact cmp_read hs gl gr hf
      | succ n =>
        unfold opnd
        rw [if_neg f.1, if_neg f.2]
        exact cmp_read hs gl gr hf
    have b := rb_of a (.inr True.intro)
    exact ⟨a, b, rc_of b (.inr True.intro)⟩
theorem m_no {c : Cd} {q : Nat} {w : List Str} {d : Nat} (hr : RR c q w d) (hq : 1 ≤ q ∨ okIn false c) : RR (.no c) 0 (("not" : Str) :: w) (d + 1) := by
    have ha := hr.1 hq
    have a : RA (.no c) 0 (("not" : Str) :: w) (d + 1) := fun _ n pre suf hf => by
      have h0 := wordAt_pre pre ((("not" : Str) :: w) ++ suf) 0
      rw [Nat.add_zero, show wordAt ((("not" : Str) :: w) ++ suf) 0 = "not" from rfl] at h0
      cases n with
      | zero =>
        rw [if_neg (by omega)]
        unfold opnd
        rw [h0, if_pos (.inl rfl)]
      | succ n =>
        have q := ha n (pre ++ [("not" : Str)]) suf hf
        have r1 : pre ++ [("not" : Str)] ++ (w ++ suf) = pre ++ ((("not" : Str) :: w) ++ suf) := by simp
        have l1 : (pre ++ [("not" : Str)]).length = pre.length + 1 := by simp
        rw [r1, l1] at q
        unfold opnd
        rw [h0, if_pos rfl, q]
        by_cases hd : d ≤ n
        · rw [if_pos hd, if_pos (by omega)]
          show some (Cd.no c, pre.length + 1 + w.length) = some (Cd.no c, pre.length + (w.length + 1))
          congr 2
          omega
        · rw [if_neg hd, if_neg (by omega)]
          rfl
    have b := rb_of a (.inr True.intro)
    exact ⟨a, b, rc_of b (.inr True.intro)⟩
theorem m_jn {o : Bool} {cs : List Cd} {ws : List (List Str)} {d : Nat} (h2 : 2 ≤ cs.length) (h : DrAll o cs ws d) (hm : MS o cs ws d) : RR (.jn o cs) 0 (seps o ws) d := by
    have hl := seps_len h
    have ne : cs ≠ [] := fun z => by rw [z] at h2; exact absurd h2 (by decide)
    have jo : joinOf o cs = .jn o cs := by
      match cs, h2 with
      | a :: b :: r, _ => rfl
    cases o with
    | false =>
      have b : RB (.jn false cs) 0 (seps false ws) d := fun _ n pre suf hf h1 => by
        have q := hm n pre suf ((pre ++ (seps false ws ++ suf)).length + 1) ne hf h1 (fun z => by cases z) (by simp only [List.length_append]; omega)
        unfold takeAnd takeJ
        have q : loopJ (pre ++ (seps false ws ++ suf)) (opnd (pre ++ (seps false ws ++ suf)) n) (jw false) ((pre ++ (seps false ws ++ suf)).length + 1) pre.length = _ := q
        rw [q]
        by_cases hd : d ≤ n
        · rw [if_pos hd, if_pos hd]
          show some (joinOf false cs, _) = _
          rw [jo]
        · rw [if_neg hd, if_neg hd]
          rfl
      exact ⟨fun z => z.elim (fun z => absurd z (by decide)) (fun z => z.elim), b, rc_of b (.inr True.intro)⟩
    | true =>
      refine ⟨fun z => z.elim (fun z => absurd z (by decide)) (fun z => z.elim), fun z => z.elim (fun z => absurd z (by decide)) (fun z => z.elim), fun n pre suf hf h1 h3 => ?_⟩
      have q := hm n pre suf ((pre ++ (seps true ws ++ suf)).length + 1) ne hf h3 (fun _ => h1) (by simp only [List.length_append]; omega)
      unfold takeOr takeJ
      have q : loopJ (pre ++ (seps true ws ++ suf)) (takeAnd (pre ++ (seps true ws ++ suf)) n) (jw true) ((pre ++ (seps true ws ++ suf)).length + 1) pre.length = _ := q
      rw [q]
      by_cases hd : d ≤ n
      · rw [if_pos hd, if_pos hd]
        show some (joinOf true cs, _) = _
        rw [jo]
      · rw [if_neg hd, if_neg hd]
        rfl
theorem ms_cons {o : Bool} {c : Cd} {cs : List Cd} {q : Nat} {w : List Str} {ws : List (List Str)} {d e : Nat} (hm : RR c q w d) (hq : 1 ≤ q ∨ okIn o c) (hr : DrAll o cs ws e) (mt : MS o cs ws e) : MS o (c :: cs) (w :: ws) (max d e) := fun n pre suf f _ hf h1 h2 hl => by
    have one : ∀ pre suf, Sf suf → (o = true → wordAt suf 0 ≠ "and") → tk (pre ++ (w ++ suf)) n o pre.length = if d ≤ n then some (c, pre.length + w.length) else none := fun pre suf hf h2 => by
      cases o with
      | false => exact hm.1 hq n pre suf hf
      | true => exact hm.2.1 hq n pre suf hf (h2 rfl)
    obtain ⟨f, rfl⟩ : ∃ g, f = g + 1 := ⟨f - 1, by rw [List.length_cons] at hl; omega⟩
    cases ws with
    | nil =>
      cases hr
      have q := one pre suf hf h2
      unfold loopJ
      show (match tk (pre ++ (w ++ suf)) n o pre.length with | none => none | some (c, j) => if wordAt (pre ++ (w ++ suf)) j = jw o then _ else some ([c], j)) = _
      rw [q]
      by_cases hd : d ≤ n
      · rw [if_pos hd, if_pos (by omega)]
        show (if wordAt (pre ++ (w ++ suf)) (pre.length + w.length) = jw o then _ else some ([c], pre.length + w.length)) = _
        rw [behind, if_neg h1]
        rfl
      · rw [if_neg hd, if_neg (by omega)]
    | cons v r =>
      have ne : cs ≠ [] := by
        intro z
        rw [z] at hr
        cases hr
      have q := one pre (jw o :: (seps o (v :: r) ++ suf)) (sf_jw o _) (fun z => by rw [z]; show ("or" : Str) ≠ "and"; decide +kernel)
      have b := behind pre w (jw o :: (seps o (v :: r) ++ suf))
      have t := mt n (pre ++ w ++ [jw o]) suf f ne hf h1 h2 (by rw [List.length_cons] at hl; omega)
      have r1 : pre ++ (w ++ (jw o :: (seps o (v :: r) ++ suf))) = pre ++ (seps o (w :: v :: r) ++ suf) := by simp [seps]
      have r2 : pre ++ w ++ [jw o] ++ (seps o (v :: r) ++ suf) = pre ++ (seps o (w :: v :: r) ++ suf) := by simp [seps]
      have l1 : (pre ++ w ++ [jw o]).length = pre.length + w.length + 1 := by simp only [List.length_append, List.length_cons, List.length_nil]
      have l2 : (seps o (w :: v :: r)).length = w.length + 1 + (seps o (v :: r)).length := by simp only [seps, List.length_append, List.length_cons]; omega
      rw [r1] at q b
      rw [r2, l1] at t
      unfold loopJ
      rw [q]
      by_cases hd : d ≤ n
      · rw [if_pos hd]
        show (if wordAt _ (pre.length + w.length) = jw o then _ else _) = _
        rw [b, if_pos (show wordAt (jw o :: (seps o (v :: r) ++ suf)) 0 = jw o from rfl), t]
        by_cases he : e ≤ n
        · rw [if_pos he, if_pos (by omega), l2]
          show some (c :: cs, _) = _
          congr 2
          omega
        · rw [if_neg he, if_neg (by omega)]
      · rw [if_neg hd, if_neg (by omega)]
theorem main {c : Cd} {p : Nat} {w : List Str} {d : Nat} (h : Dr c p w d) : RR c p w d :=
  Dr.rec (motive_1 := fun c p w d _ => RR c p w d) (motive_2 := fun o cs ws d _ => MS o cs ws d) (fun _ hr => m_par hr) (fun hs gl gr => m_cmp hs gl gr) (fun _ hq hr => m_no hr hq) (fun h2 h hm => m_jn h2 h hm)
    (fun n pre suf f ne => absurd rfl ne) (fun _ hq hr hm mt => ms_cons hm hq hr mt) h
theorem read_dressed {c : Cd} {p : Nat} {w : List Str} {d : Nat} (h : Dr c p w d) : readC w = if d ≤ 8 then some c else none := by
  have q := (main h).2.2 8 [] [] ⟨noSign_nil, by show ("" : Str) ≠ "["; decide +kernel⟩ (by show ("" : Str) ≠ "and"; decide +kernel) (by show ("" : Str) ≠ "or"; decide +kernel)
  rw [List.nil_append, List.append_nil, List.length_nil, Nat.zero_add] at q
  unfold readC
  rw [q]
  by_cases hd : d ≤ 8
  · rw [if_pos hd, if_pos hd]
    exact if_pos rfl
  · rw [if_neg hd, if_neg hd]
    rfl
end W7
namespace W8
open PySem PySem.Spec PyProof.Rows L2 Wy WM W3 W4 W5 W7
/-! ### reading goes on -/
theorem plus_gt {ws : List Str} {i j : Nat} {p : Int} (h : takePlus ws i = some (p, j)) : i ≤ j := by
  unfold takePlus at h
  split at h
  · split at h
    · cases h
      omega
    · cases h
  · cases h
    exact Nat.le_refl _
theorem signed_gt {ws : List Str} {i j : Nat} {p : Int} (h : takeSigned ws i = some (p, j)) : i < j := by
  unfold takeSigned at h
  split at h
  · cases h
    omega
  · split at h
    · cases h
      omega
    · cases h
theorem plain_gt {ws : List Str} {i j : Nat} {e : Ex} (h : takePlain ws i = some (e, j)) : i < j := by
  unfold takePlain at h
  split at h
  · cases q : takePlus ws (i + 1) with
    | none =>
      rw [q] at h
      cases h
    | some r =>
      obtain ⟨p, k⟩ := r
      rw [q] at h
      have := plus_gt q
      cases h
      omega
  · cases q : takeSigned ws i with
    | none =>
      rw [q] at h
      cases h
    | some r =>
      obtain ⟨p, k⟩ := r
      rw [q] at h
      have := signed_gt q
      cases h
      omega
theorem expr_gt {ws : List Str} {i j : Nat} {e : Ex} (h : takeExpr ws i = some (e, j)) : i < j := by
  unfold takeExpr at h
  split at h
  · cases q : takePlain ws (i + 2) with
    | none =>
      rw [q] at h
      cases h
    | some r =>
      obtain ⟨x, k⟩ := r
      rw [q] at h
      have g := plain_gt q
      have h : (if wordAt ws k = "]" then (match takePlus ws (k + 1) with | none => none | some (p, m) => some (Ex.item (wordAt ws i) x p, m)) else none) = some (e, j) := h
      split at h
      · cases q2 : takePlus ws (k + 1) with
        | none =>
          rw [q2] at h
          cases h
        | some r2 =>
          obtain ⟨p, m⟩ := r2
          rw [q2] at h
          have g2 := plus_gt q2
          cases h
          omega
      · cases h
  · exact plain_gt h
theorem cmp_gt {ws : List Str} {i j : Nat} {c : Cd} (h : takeCmp ws i = some (c, j)) : i < j := by
  unfold takeCmp at h
  cases q : takeExpr ws i with
  | none =>
    rw [q] at h
    cases h
  | some r =>
    obtain ⟨x, k⟩ := r
    rw [q] at h
    have g := expr_gt q
    have h : (if wordAt ws k ∈ SIG then (match takeExpr ws (k + 1) with | none => none | some (r, m) => some (Cd.cmp (wordAt ws k) x r, m)) else none) = some (c, j) := h
    split at h
    · cases q2 : takeExpr ws (k + 1) with
      | none =>
        rw [q2] at h
        cases h
      | some r2 =>
        obtain ⟨p, m⟩ := r2
        rw [q2] at h
        have g2 := expr_gt q2
        cases h
        omega
    · cases h
theorem loop_gt {ws : List Str} {take : Nat → Option (Cd × Nat)} {word : Str} (ht : ∀ i c j, take i = some (c, j) → i < j) : ∀ {f i k : Nat} {cs : List Cd}, loopJ ws take word f i = some (cs, k) → i < k
  | 0, _, _, _, h => by cases h
  | f + 1, i, k, cs, h => by
    unfold loopJ at h
    cases q : take i with
    | none =>
      rw [q] at h
      cases h
    | some r =>
      obtain ⟨c, j⟩ := r
      rw [q] at h
      have g := ht _ _ _ q
      have h : (if wordAt ws j = word then (match loopJ ws take word f (j + 1) with | none => none | some (cs, k) => some (c :: cs, k)) else some ([c], j)) = some (cs, k) := h
      split at h
      · cases q2 : loopJ ws take word f (j + 1) with
        | none =>
          rw [q2] at h
          cases h
        | some r2 =>
          obtain ⟨cs2, m⟩ := r2
          rw [q2] at h
          have g2 := loop_gt ht q2
          cases h
          omega
      · cases h
        exact g
theorem takeJ_gt {ws : List Str} {take : Nat → Option (Cd × Nat)} {o : Bool} (ht : ∀ i c j, take i = some (c, j) → i < j) {i j : Nat} {c : Cd} (h : takeJ ws take o i = some (c, j)) : i < j := by
  unfold takeJ at h
  cases q : loopJ ws take (jw o) (ws.length + 1) i with
  | none =>
    rw [q] at h
    cases h
  | some r =>
    obtain ⟨cs, k⟩ := r
    rw [q] at h
    have g := loop_gt ht q
    cases h
    exact g
theorem opnd_gt {ws : List Str} : ∀ {n i j : Nat} {c : Cd}, opnd ws n i = some (c, j) → i < j
  | 0, i, j, c, h => by
    unfold opnd at h
    split at h
    · cases h
    · exact cmp_gt h
  | n + 1, i, j, c, h => by
    unfold opnd at h
    split at h
    · cases q : opnd ws n (i + 1) with
      | none =>
        rw [q] at h
        cases h
      | some r =>
        obtain ⟨x, k⟩ := r
        rw [q] at h
        have g := opnd_gt q
        cases h
        omega
    · split at h
      · cases q : takeJ ws (takeJ ws (opnd ws n) false) true (i + 1) with
        | none =>
          rw [q] at h
          cases h
        | some r =>
          obtain ⟨x, k⟩ := r
          rw [q] at h
          have g := takeJ_gt (fun i c j h => takeJ_gt (fun i c j h => opnd_gt h) h) q
          have h : (if wordAt ws k = ")" then some (x, k + 1) else none) = some (c, j) := h
          split at h
          · cases h
            omega
          · cases h
      · exact cmp_gt h
theorem tk_gt {ws : List Str} {n : Nat} : ∀ (o : Bool) {i j : Nat} {c : Cd}, tk ws n o i = some (c, j) → i < j
  | false, _, _, _, h => opnd_gt h
  | true, _, _, _, h => takeJ_gt (fun i c j h => opnd_gt h) h
theorem inV_list {x : Str} : ∀ {l : List Str}, inV (.str x) (l.map V.str) = decide (x ∈ l)
  | [] => by simp [inV]
  | y :: l => by
    have ih := inV_list (x := x) (l := l)
    show ((y == x) || inV (.str x) (l.map V.str)) = _
    rw [ih, Bool.eq_iff_iff, Bool.or_eq_true, beq_iff_eq, decide_eq_true_iff, decide_eq_true_iff, List.mem_cons]
    exact ⟨fun h => h.imp Eq.symm id, fun h => h.imp Eq.symm id⟩
def cD : Option (Cd × Nat) → PyData
  | none => .none
  | some (c, j) => .tuple [c.d, .int (j : Int)]
def oC : Option Cd → PyData
  | none => .none
  | some c => c.d
theorem ds_len : ∀ {cs : List Cd}, (Cd.ds cs).length = cs.length
  | [] => rfl
  | _ :: _ => congrArg (· + 1) ds_len
theorem ds_snoc {c : Cd} : ∀ {cs : List Cd}, Cd.ds (cs ++ [c]) = Cd.ds cs ++ [c.d]
  | [] => rfl
  | _ :: _ => congrArg (_ :: ·) ds_snoc
theorem tpSnoc {H : Hp} {v : V} {d : PyData} : ∀ {vs : List V} {ds : List PyData}, TpAll H vs ds → Tp H v d → TpAll H (vs ++ [v]) (ds ++ [d])
  | _, _, .nil, h => .cons h .nil
  | _, _, .cons h1 h2, h => .cons h1 (tpSnoc h2 h)
end W8
namespace W9
open PySem PySem.Spec PyProof.Rows L2 Wy WM W3 W4 W5 W7 W8
/-! ### texts that hold words -/
def TextOf (z : Str) (ws : List Str) : Prop := ∃ g, tl z = glue g ∧ GlueOk g ∧ g ≠ [] ∧ g.map (fun q => mkS q.1) = ws
theorem TextOf.words {z : Str} {ws : List Str} (h : TextOf z ws) : wordsW z = some ws := by
  obtain ⟨g, h1, h2, _, h4⟩ := h
  rw [words_glue (k := 0) h2 (by rw [h1]; rfl)]
  exact congrArg some h4
theorem goodG_ne {e : Ex} (h : Good e) : goodG e ≠ [] := by
  intro z
  have := good_words h
  have t := good_tl h
  rw [z] at t
  cases e with
  | num n =>
    have hn : n.natAbs < 10 ^ 10 := h
    have w : (wordsE (.num n)).length ≤ 0 := by
      have e2 := words_glue (z := textE (.num n)) (k := 0) (l := []) True.intro (by rw [t]; rfl)
      rw [this] at e2
      have e2 := Option.some.inj e2
      rw [e2]
      exact Nat.le_refl _
    unfold wordsE at w
    split at w <;> simp at w
  | var x p =>
    have e2 := words_glue (z := textE (.var x p)) (k := 0) (l := []) True.intro (by rw [t]; rfl)
    rw [this] at e2
    have e2 := Option.some.inj e2
    cases e2
  | item x i p =>
    have e2 := words_glue (z := textE (.item x i p)) (k := 0) (l := []) True.intro (by rw [t]; rfl)
    rw [this] at e2
    have e2 := Option.some.inj e2
    cases e2
theorem to_expr {e : Ex} (h : Good e) : TextOf (textE e) (wordsE e) := by
  refine ⟨goodG e, good_tl h, good_glue h, goodG_ne h, ?_⟩
  have q := words_glue (k := 0) (good_glue h) (by rw [good_tl h]; rfl)
  rw [good_words h] at q
  exact (Option.some.inj q).symm
theorem to_tok {s : Str} (h : W4.Tok s) : TextOf s [s] := ⟨[(tl s, 0)], by simp [glue], h, by simp, by simp [mkS]⟩
/-- a space behind -/
def gap : List (List Nat × Nat) → List (List Nat × Nat)
  | [] => []
  | [(w, n)] => [(w, n + 1)]
  | x :: y :: r => x :: gap (y :: r)
theorem glue_gap : ∀ {a : List (List Nat × Nat)}, a ≠ [] → ∀ b, glue (gap a ++ b) = glue a ++ (32 :: glue b)
  | [], h, _ => absurd rfl h
  | [(w, n)], _, b => by
    show w ++ (List.replicate (n + 1) 32 ++ glue b) = w ++ (List.replicate n 32 ++ []) ++ (32 :: glue b)
    rw [List.replicate_succ']
    simp
  | (w, n) :: y :: r, _, b => by
    have ih := glue_gap (a := y :: r) (by simp) b
    show w ++ (List.replicate n 32 ++ glue (gap (y :: r) ++ b)) = w ++ (List.replicate n 32 ++ glue (y :: r)) ++ (32 :: glue b)
    rw [ih]
    simp
theorem gap_head : ∀ {y : List Nat × Nat} {r : List (List Nat × Nat)}, ∃ m t, gap (y :: r) = (y.1, m) :: t
  | (w, n), [] => ⟨n + 1, [], rfl⟩
  | (w, n), z :: r => ⟨n, gap (z :: r), rfl⟩
theorem ok_gap : ∀ {a b : List (List Nat × Nat)}, GlueOk a → a ≠ [] → GlueOk b → GlueOk (gap a ++ b)
  | [], _, _, h, _ => absurd rfl h
  | [(w, n)], b, h1, _, h3 => by
    refine glue_cons h1 (fun _ _ _ _ => .inl (Nat.succ_pos n)) h3
  | (w, n) :: (v, m) :: r, b, h1, _, h3 => by
    have ih := ok_gap (a := (v, m) :: r) h1.2.2 (by simp) h3
    obtain ⟨k, t, e⟩ := gap_head (y := (v, m)) (r := r)
    show GlueOk ((w, n) :: (gap ((v, m) :: r) ++ b))
    rw [e] at ih ⊢
    exact ⟨h1.1, h1.2.1, ih⟩
theorem gap_map : ∀ (a : List (List Nat × Nat)), (gap a).map (fun q => mkS q.1) = a.map fun q => mkS q.1
  | [] => rfl
  | [(w, n)] => rfl
  | x :: y :: r => congrArg (_ :: ·) (gap_map (y :: r))
theorem gap_ne {a : List (List Nat × Nat)} (h : a ≠ []) : gap a ≠ [] := by
  match a, h with
  | [(w, n)], _ => simp [gap]
  | x :: y :: r, _ => simp [gap]
theorem to_sp {x y : Str} {a b : List Str} (h : TextOf x a) (k : TextOf y b) : TextOf (x ++ (" " : Str) ++ y) (a ++ b) := by
  obtain ⟨g, h1, h2, h3, h4⟩ := h
  obtain ⟨g', k1, k2, k3, k4⟩ := k
  refine ⟨gap g ++ g', ?_, ok_gap h2 h3 k2, by simp [gap_ne h3], by rw [List.map_append, gap_map, h4, k4]⟩
  rw [glue_gap h3, tl_app, tl_app, h1, k1, show tl (" " : Str) = [32] by decide +kernel]
  simp
theorem no40 : (40 : Nat) ∉ tl LET ∧ 40 ∉ tl DIG ∧ 40 ∉ EQS := by decide +kernel
theorem no41 : (41 : Nat) ∉ tl LET ∧ 41 ∉ tl DIG ∧ 41 ∉ EQS := by decide +kernel
theorem to_par {x : Str} {a : List Str} (h : TextOf x a) : TextOf (("(" : Str) ++ x ++ (")" : Str)) (("(" : Str) :: (a ++ [(")" : Str)])) := by
  obtain ⟨g, h1, h2, h3, h4⟩ := h
  have e1 : tl ("(" : Str) = [40] := by decide +kernel
  have e2 : tl (")" : Str) = [41] := by decide +kernel
  have t1 : IsTok [40] := tok_one (by decide +kernel)
  have t2 : IsTok [41] := tok_one (by decide +kernel)
  refine ⟨([40], 0) :: (g ++ [([41], 0)]), ?_, ?_, by simp, ?_⟩
  · rw [tl_app, tl_app, e1, e2, h1]
    show _ = [40] ++ (List.replicate 0 32 ++ glue (g ++ [([41], 0)]))
    rw [glue_app]
    simp [glue]
  · refine glue_cons t1 (fun v m r _ => .inr (no_join_sho no40 (.inl rfl))) ?_
    exact glue_join h2 (fun v => no_join_sho no41 (.inr rfl)) t2
  · rw [List.map_cons, List.map_append, h4]
    rw [show mkS ([40] : List Nat) = ("(" : Str) by decide +kernel]
    show _ = _
    rw [show ([([41], 0)] : List (List Nat × Nat)).map (fun q => mkS q.1) = [(")" : Str)] by decide +kernel]
/-! ### the text of a condition -/
def needB : Bool → Cd → Bool
  | false, .jn _ _ => true
  | true, .jn true _ => true
  | _, _ => false
def wrap (b : Bool) (z : Str) : Str := if b then ("(" : Str) ++ z ++ (")" : Str) else z
def wrapW (b : Bool) (w : List Str) : List Str := if b then ("(" : Str) :: (w ++ [(")" : Str)]) else w
def joinS (o : Bool) : List Str → Str
  | [] => Str.empty
  | [x] => x
  | x :: y :: r => x ++ (" " : Str) ++ jw o ++ (" " : Str) ++ joinS o (y :: r)
mutual
def textC : Cd → Str
  | .cmp s l r => textE l ++ (" " : Str) ++ s ++ (" " : Str) ++ textE r
  | .no c => ("not" : Str) ++ (" " : Str) ++ wrap (needB false c) (textC c)
  | .jn o cs => joinS o (textsC o cs)
def textsC (o : Bool) : List Cd → List Str
  | [] => []
  | c :: cs => wrap (needB o c) (textC c) :: textsC o cs
end
mutual
def wC : Cd → List Str
  | .cmp s l r => wordsE l ++ (s :: wordsE r)
  | .no c => ("not" : Str) :: wrapW (needB false c) (wC c)
  | .jn o cs => seps o (wsC o cs)
def wsC (o : Bool) : List Cd → List (List Str)
  | [] => []
  | c :: cs => wrapW (needB o c) (wC c) :: wsC o cs
end
mutual
def dC : Cd → Nat
  | .cmp _ _ _ => 0
  | .no c => dC c + (if needB false c then 1 else 0) + 1
  | .jn o cs => dsC o cs
def dsC (o : Bool) : List Cd → Nat
  | [] => 0
  | c :: cs => max (dC c + (if needB o c then 1 else 0)) (dsC o cs)
end
mutual
def okC : Cd → Prop
  | .cmp s l r => s ∈ SIG ∧ Good l ∧ Good r
  | .no c => okC c
  | .jn _ cs => 2 ≤ cs.length ∧ oksC cs
def oksC : List Cd → Prop
  | [] => True
  | c :: cs => okC c ∧ oksC cs
end
theorem need_ok {o : Bool} {c : Cd} (h : needB o c = false) : okIn o c := by
  cases o <;> cases c with
  | cmp _ _ _ => exact True.intro
  | no _ => exact True.intro
  | jn o2 cs => first | (cases h; done) | (cases o2 <;> first | (cases h; done) | exact True.intro)
theorem dr_wrap {c : Cd} {w : List Str} {d : Nat} (o : Bool) (h : Dr c 0 w d) : ∃ q, Dr c q (wrapW (needB o c) w) (d + (if needB o c then 1 else 0)) ∧ (1 ≤ q ∨ okIn o c) := by
  cases e : needB o c with
  | false => exact ⟨0, h, .inr (need_ok e)⟩
  | true => exact ⟨1, .par h, .inl (Nat.le_refl 1)⟩
mutual
theorem dr_plain : ∀ {c : Cd}, okC c → Dr c 0 (wC c) (dC c)
  | .cmp s l r, h => by
    rw [okC] at h
    rw [wC, dC]
    exact .cmp h.1 h.2.1 h.2.2
  | .no c, h => by
    rw [okC] at h
    obtain ⟨q, h1, h2⟩ := dr_wrap false (dr_plain h)
    rw [wC, dC]
    exact .no h1 h2
  | .jn o cs, h => by
    rw [okC] at h
    rw [wC, dC]
    exact .jn h.1 (dr_plains o h.2)
theorem dr_plains (o : Bool) : ∀ {cs : List Cd}, oksC cs → DrAll o cs (wsC o cs) (dsC o cs)
  | [], _ => .nil
  | c :: cs, h => by
    rw [oksC] at h
    obtain ⟨q, h1, h2⟩ := dr_wrap o (dr_plain h.1)
    rw [wsC, dsC]
    exact .cons h1 h2 (dr_plains o h.2)
end
theorem tok_sig {s : Str} (h : s ∈ SIG) : W4.Tok s := by
  have one : ∀ s ∈ (["<", ">"] : List Str), ∃ c, tl s = [c] ∧ c ∈ tl SHO := by
    intro s hs
    rcases List.mem_cons.mp hs with rfl | hs
    · exact ⟨60, by decide +kernel, by decide +kernel⟩
    · rcases List.mem_cons.mp hs with rfl | hs
      · exact ⟨62, by decide +kernel, by decide +kernel⟩
      · cases hs
  have two : ∀ s ∈ (["<=", ">=", "==", "!="] : List Str), ∃ c, tl s = [c, 61] ∧ c ∈ EQS := by
    intro s hs
    rcases List.mem_cons.mp hs with rfl | hs
    · exact ⟨60, by decide +kernel, by decide +kernel⟩
    · rcases List.mem_cons.mp hs with rfl | hs
      · exact ⟨62, by decide +kernel, by decide +kernel⟩
      · rcases List.mem_cons.mp hs with rfl | hs
        · exact ⟨61, by decide +kernel, by decide +kernel⟩
        · rcases List.mem_cons.mp hs with rfl | hs
          · exact ⟨33, by decide +kernel, by decide +kernel⟩
          · cases hs
  have sp : ∀ s ∈ SIG, s ∈ (["<", ">"] : List Str) ∨ s ∈ (["<=", ">=", "==", "!="] : List Str) := by decide +kernel
  rcases sp s h with h | h
  · obtain ⟨c, e, hc⟩ := one s h
    exact tok_sho e hc
  · obtain ⟨c, e, hc⟩ := two s h
    unfold W4.Tok
    rw [e]
    exact tok_two hc
theorem tok_word {s : Str} (h : s ∈ (["not", "and", "or"] : List Str)) : W4.Tok s := by
  have : ∀ s ∈ (["not", "and", "or"] : List Str), tl s ≠ [] ∧ ∀ c ∈ tl s, c ∈ tl LET := by decide +kernel
  exact tok_let (this s h).1 (this s h).2
theorem to_wrap {z : Str} {w : List Str} (b : Bool) (h : TextOf z w) : TextOf (wrap b z) (wrapW b w) := by
  cases b with
  | false => exact h
  | true => exact to_par h
inductive Texts : List Str → List (List Str) → Prop
  | nil : Texts [] []
  | cons {z : Str} {w : List Str} {zs : List Str} {ws : List (List Str)} : TextOf z w → Texts zs ws → Texts (z :: zs) (w :: ws)
theorem to_join {o : Bool} : ∀ {zs : List Str} {ws : List (List Str)}, Texts zs ws → zs ≠ [] → TextOf (joinS o zs) (seps o ws)
  | _, _, .nil, h => absurd rfl h
  | _, _, .cons h .nil, _ => h
  | _, _, .cons (z := z) (w := w) h (.cons (z := y) (w := v) (zs := zs) (ws := ws) h2 r), _ => by
    have ih := to_join (o := o) (.cons h2 r) (by simp)
    have t := to_sp (to_sp h (to_tok (tok_word (s := jw o) (by cases o <;> decide +kernel)))) ih
    have e : w ++ [jw o] ++ seps o (v :: ws) = seps o (w :: v :: ws) := by simp [seps]
    rw [e] at t
    exact t
mutual
theorem text_words : ∀ {c : Cd}, okC c → TextOf (textC c) (wC c)
  | .cmp s l r, h => by
    rw [okC] at h
    rw [textC, wC]
    have t := to_sp (to_sp (to_expr h.2.1) (to_tok (tok_sig h.1))) (to_expr h.2.2)
    rw [List.append_assoc] at t
    exact t
  | .no c, h => by
    rw [okC] at h
    rw [textC, wC]
    exact to_sp (to_tok (tok_word (by decide +kernel))) (to_wrap _ (text_words h))
  | .jn o cs, h => by
    rw [okC] at h
    rw [textC, wC]
    refine to_join (texts_words o h.2) ?_
    match cs, h.1 with
    | c :: cs, _ =>
      rw [textsC]
      simp
theorem texts_words (o : Bool) : ∀ {cs : List Cd}, oksC cs → Texts (textsC o cs) (wsC o cs)
  | [], _ => by
    rw [textsC, wsC]
    exact .nil
  | c :: cs, h => by
    rw [oksC] at h
    rw [textsC, wsC]
    exact .cons (to_wrap _ (text_words h.1)) (texts_words o h.2)
end
/-- what is read of a condition's text -/
theorem read_text {c : Cd} (h : okC c) : wordsW (textC c) = some (wC c) ∧ readC (wC c) = if dC c ≤ 8 then some c else none := ⟨(text_words h).words, read_dressed (dr_plain h)⟩
end W9
/-! WR: the rows of a paper as texts: joined, split, numbers. -/
namespace WR
open PySem PySem.Spec PyProof.Rows L2 Wy WM W3 W4
abbrev SP : Str := " "
abbrev NL : Str := "\n"
abbrev CM : Str := ","
/-- a number of at most m digits without a needless zero -/
def numW (m : Nat) (z : Str) : Bool := decide (1 ≤ z.length) && decide (z.length ≤ m) && (decide (∀ c ∈ tl z, c ∈ tl DIG)) && (decide (z.length = 1) || !decide ((tl z)[0]? = some 48))
theorem num_len {n m : Nat} (hm : 0 < m) (h : n < 10 ^ m) : 1 ≤ (numS n).length ∧ (numS n).length ≤ m := by
  rw [str_len]
  show 1 ≤ (tl (numS n)).length ∧ (tl (numS n)).length ≤ m
  rw [numS_tl]
  exact ⟨List.length_pos_iff.mpr (TL.numL_ne n), TL.numL_len hm h⟩
theorem numW_num {n m : Nat} (hm : 0 < m) (h : n < 10 ^ m) : numW m (numS n) = true := by
  obtain ⟨h1, h2⟩ := num_len hm h
  unfold numW
  rw [decide_eq_true h1, decide_eq_true h2, numS_tl, decide_eq_true (fun c hc => dig_mem (TL.numL_digits n c hc))]
  by_cases h0 : n = 0
  · subst h0
    decide +kernel
  · rw [decide_eq_false (numL_head (by omega))]
    simp
theorem num_text {n m : Nat} (hm : 0 < m) (hm2 : m ≤ 600) (h : n < 10 ^ m) : intText? (numS n) = some (n : Int) ∧ (numS n).length ≤ 640 := by
  obtain ⟨h1, h2⟩ := num_len hm h
  have e := numS_dv n
  rw [← e]
  refine ⟨?_, by omega⟩
  exact intText_digits (fun c hc => TL.numL_digits n c (by rw [← numS_tl]; exact hc)) (ne_of_len h1) (by omega)
/-- a sign that no number has -/
theorem num_no {n c : Nat} (h : c < 48 ∨ 57 < c) : c ∉ tl (numS n) := by
  rw [numS_tl]
  intro hc
  have := TL.numL_digits n c hc
  omega
theorem int_no {n : Int} {c : Nat} (h : c < 48 ∨ 57 < c) (h2 : c ≠ 45) : c ∉ tl (intS n) := by
  rw [intS_tl]
  split
  · intro hc
    rcases List.mem_cons.mp hc with e | hc
    · exact h2 e
    · have := TL.numL_digits _ c hc
      omega
  · intro hc
    have := TL.numL_digits _ c hc
    omega
theorem jl (y : Str) (ps : List Str) : tl (Txt.join y ps) = TL.joinL (tl y) (ps.map tl) := by
  rw [TL.join_eq]
  exact TL.tl_join y ps
theorem joinL_mem {y : List Nat} {c : Nat} : ∀ {ps : List (List Nat)}, c ∈ TL.joinL y ps → c ∈ y ∨ ∃ p ∈ ps, c ∈ p
  | [], h => absurd h (by simp [TL.joinL])
  | [p], h => .inr ⟨p, List.mem_singleton.mpr rfl, h⟩
  | p :: q :: r, h => by
    have h : c ∈ p ++ (y ++ TL.joinL y (q :: r)) := h
    rcases List.mem_append.mp h with h | h
    · exact .inr ⟨p, List.mem_cons_self .., h⟩
    · rcases List.mem_append.mp h with h | h
      · exact .inl h
      · rcases joinL_mem h with h | ⟨z, hz, h⟩
        · exact .inl h
        · exact .inr ⟨z, List.mem_cons_of_mem _ hz, h⟩
theorem join_no {y : Str} {c : Nat} {ps : List Str} (hy : c ∉ tl y) (hp : ∀ p ∈ ps, c ∉ tl p) : c ∉ tl (Txt.join y ps) := by
  rw [jl]
  intro h
  rcases joinL_mem h with h | ⟨p, hp2, h⟩
  · exact hy h
  · obtain ⟨z, hz, rfl⟩ := List.mem_map.mp hp2
    exact hp z hz h
theorem join_cons {y x : Str} {r : List Str} (h : r ≠ []) : Txt.join y (x :: r) = x ++ (y ++ Txt.join y r) := by
  refine str_ext ?_
  show tl _ = tl _
  rw [tl_app, tl_app, jl, jl]
  cases r with
  | nil => exact absurd rfl h
  | cons z r => rfl
theorem join_one {y x : Str} : Txt.join y [x] = x := by
  refine str_ext ?_
  show tl _ = tl _
  rw [jl]
  rfl
theorem split_sp {parts : List Str} (hne : parts ≠ []) (hp : ∀ p ∈ parts, 32 ∉ tl p) : Txt.split (Txt.join SP parts) SP = parts := TL.split_join (s := 32) (S := []) (by decide +kernel) (by decide +kernel) hne hp
theorem split_nl {parts : List Str} (hne : parts ≠ []) (hp : ∀ p ∈ parts, 10 ∉ tl p) : Txt.split (Txt.join NL parts) NL = parts := TL.split_join (s := 10) (S := []) (by decide +kernel) (by decide +kernel) hne hp
theorem split_cm {parts : List Str} (hne : parts ≠ []) (hp : ∀ p ∈ parts, 44 ∉ tl p) : Txt.split (Txt.join CM parts) CM = parts := TL.split_join (s := 44) (S := []) (by decide +kernel) (by decide +kernel) hne hp
theorem starts_eq (x y : Str) : Txt.startswith x y = decide ((tl x).take (tl y).length = tl y) := by
  have h1 : ((x.cps.extract 0 (0 + y.length)) == y.cps) = decide ((tl x).take (tl y).length = tl y) := by
    rw [Bool.beq_eq_decide_eq, decide_eq_decide]
    have e : (x.cps.extract 0 (0 + y.length)).toList = (tl x).take (tl y).length := by
      rw [Array.toList_extract, Nat.zero_add, str_len]
      simp [List.extract]
    constructor
    · intro h
      rw [← e, h]
    · intro h
      refine Array.toList_inj.mp ?_
      rw [e, h]
  show (decide (0 + y.length ≤ x.length) && ((x.cps.extract 0 (0 + y.length)) == y.cps)) = _
  rw [h1]
  by_cases h : (tl x).take (tl y).length = tl y
  · rw [decide_eq_true h, Bool.and_true]
    refine decide_eq_true ?_
    have h2 := congrArg List.length h
    rw [List.length_take] at h2
    rw [str_len, str_len]
    show 0 + (tl y).length ≤ (tl x).length
    omega
  · rw [decide_eq_false h, Bool.and_false]
theorem starts_app (x y : Str) : Txt.startswith (y ++ x) y = true := by
  rw [starts_eq, tl_app]
  exact decide_eq_true (by simp)
theorem starts_not {x y : Str} {c d : Nat} (hx : (tl x)[0]? = some c) (hy : (tl y)[0]? = some d) (h : c ≠ d) : Txt.startswith x y = false := by
  rw [starts_eq]
  refine decide_eq_false fun e => h ?_
  have h2 := congrArg (fun l => l[0]?) e
  rw [hy] at h2
  have hl : 0 < (tl y).length := (List.getElem?_eq_some_iff.mp hy).1
  have h2 : ((tl x).take (tl y).length)[0]? = some d := h2
  rw [List.getElem?_take_of_lt hl, hx] at h2
  exact Option.some.inj h2
theorem num_head (n : Nat) : ∃ c, (tl (numS n))[0]? = some c ∧ 48 ≤ c ∧ c ≤ 57 := by
  rw [numS_tl]
  have h := List.length_pos_iff.mpr (TL.numL_ne n)
  refine ⟨(TL.numL n)[0], List.getElem?_eq_getElem h, ?_⟩
  exact TL.numL_digits n _ (List.getElem_mem h)
theorem int_neg {n : Int} (h : n < 0) : intS n = ("-" : Str) ++ numS (-n).toNat := toStr_neg h
theorem int_nat {n : Int} (h : 0 ≤ n) : intS n = numS n.toNat := toStr_nat h
theorem int_starts (n : Int) : Txt.startswith (intS n) "-" = decide (n < 0) := by
  by_cases h : n < 0
  · rw [decide_eq_true h, int_neg h]
    exact starts_app _ _
  · rw [decide_eq_false h, int_nat (by omega)]
    obtain ⟨c, h1, h2, h3⟩ := num_head n.toNat
    exact starts_not (d := 45) h1 (by decide +kernel) (by omega)
theorem cut_one (x y : Str) (h : y.length = 1) : cutS (y ++ x) (some 1) none = x := by
  refine str_ext ?_
  unfold cutS
  have e : HT.sIx (y ++ x).length 0 (some 1) = 1 := by
    rw [show (1 : Int) = ((1 : Nat) : Int) from rfl, HT.sIx_nat, app_len]
    omega
  rw [e, HT.sIx_none]
  show (((tl (y ++ x)).drop 1).take ((y ++ x).length - 1)) = tl x
  rw [tl_app, app_len, h]
  have hy : (tl y).length = 1 := by rw [← h]; exact (str_len y).symm
  rw [List.drop_append_of_le_length (by omega), List.drop_of_length_le (by omega), List.nil_append, List.take_of_length_le]
  have : x.length = (tl x).length := str_len x
  omega
theorem joinL_len {y : List Nat} {B : Nat} : ∀ {ps : List (List Nat)}, (∀ p ∈ ps, p.length ≤ B) → (TL.joinL y ps).length ≤ ps.length * (B + y.length)
  | [], _ => by simp [TL.joinL]
  | [p], h => by
    have := h p (List.mem_singleton.mpr rfl)
    show p.length ≤ 1 * (B + y.length)
    omega
  | p :: q :: r, h => by
    have h1 := h p (List.mem_cons_self ..)
    have h2 := joinL_len (y := y) (B := B) (ps := q :: r) fun z hz => h z (List.mem_cons_of_mem _ hz)
    show (p ++ (y ++ TL.joinL y (q :: r))).length ≤ _
    rw [List.length_append, List.length_append, List.length_cons, Nat.add_mul]
    omega
theorem join_len {y : Str} {ps : List Str} {B : Nat} (h : ∀ p ∈ ps, p.length ≤ B) : (Txt.join y ps).length ≤ ps.length * (B + y.length) := by
  have e1 : (Txt.join y ps).length = (tl (Txt.join y ps)).length := str_len _
  have e2 : y.length = (tl y).length := str_len _
  rw [e1, e2, jl]
  have := joinL_len (y := tl y) (B := B) (ps := ps.map tl) fun p hp => by
    obtain ⟨z, hz, rfl⟩ := List.mem_map.mp hp
    have := h z hz
    rw [str_len] at this
    exact this
  rwa [List.length_map] at this
theorem fl_len {f : List Nat} (hl : f.length ≤ 10) (h : ∀ n ∈ f, n < 10 ^ 12) : (Txt.join CM (f.map numS)).length ≤ 130 := by
  have := join_len (y := CM) (ps := f.map numS) (B := 12) fun p hp => by
    obtain ⟨n, hn, rfl⟩ := List.mem_map.mp hp
    exact (num_len (by decide) (h n hn)).2
  have e : CM.length = 1 := by decide +kernel
  rw [List.length_map, e] at this
  omega
theorem strs_tp {H : Hp} : ∀ zs : List Str, TpAll H (zs.map V.str) (zs.map PyData.str)
  | [] => .nil
  | z :: zs => .cons (.str z) (strs_tp zs)
theorem any_none {α : Type} {F : α → PyData} (h : ∀ x, PyData.eqv (F x) .none = false) (xs : List α) : (xs.map F).any (fun z => PyData.eqv z .none) = false := by
  rw [List.any_map, List.any_eq_false]
  intro x _
  rw [Function.comp_apply, h x]
  exact Bool.false_ne_true
theorem ok_of {z : Str} (h : ∀ c ∈ tl z, c < 1114112) : PyData.strOk z = true := by
  show z.cps.all (fun c => decide (c < 0x110000)) = true
  rw [← Array.all_toList, List.all_eq_true]
  exact fun c hc => decide_eq_true (h c hc)
theorem num_ok (n : Nat) : PyData.strOk (numS n) = true := ok_of fun c hc => by
  rw [numS_tl] at hc
  have := TL.numL_digits n c hc
  omega
theorem int_ok (n : Int) : PyData.strOk (intS n) = true := ok_of fun c hc => by
  rw [intS_tl] at hc
  split at hc
  · rcases List.mem_cons.mp hc with e | hc
    · omega
    · have := TL.numL_digits _ c hc
      omega
  · have := TL.numL_digits _ c hc
    omega
theorem sh_strs {zs : List Str} (h : ∀ z ∈ zs, PyData.strOk z = true) : SeqAt.shaped (.list (zs.map PyData.str)) = true := WQ.shL PyData.str zs 1 (by decide) fun z hz => ⟨by simp [PyData.canLay0, h z hz], by simp [PyData.depth]⟩
theorem nb_strs (zs : List Str) : WQ.nb (.list (zs.map PyData.str)) = true := by
  show WQ.nbAll _ = true
  exact WQ.nb_all PyData.str zs fun _ _ => rfl
theorem int_len {n : Int} (h : n.natAbs < 10 ^ 12) : (intS n).length ≤ 13 := by
  by_cases z : n < 0
  · rw [int_neg z, app_len]
    have := (num_len (m := 12) (by decide) (show (-n).toNat < 10 ^ 12 by omega)).2
    have : (("-" : Str)).length = 1 := by decide +kernel
    omega
  · rw [int_nat (by omega)]
    have := (num_len (m := 12) (by decide) (show n.toNat < 10 ^ 12 by omega)).2
    omega
theorem fl_ok (f : List Nat) : PyData.strOk (Txt.join CM (f.map numS)) = true := ok_of fun c hc => by
  rw [jl] at hc
  rcases joinL_mem hc with h | ⟨p, hp, h⟩
  · have : tl CM = [44] := by decide +kernel
    rw [this] at h
    have := List.mem_singleton.mp h
    omega
  · obtain ⟨z, hz, rfl⟩ := List.mem_map.mp hp
    obtain ⟨n, _, rfl⟩ := List.mem_map.mp hz
    rw [numS_tl] at h
    have := TL.numL_digits n c h
    omega
theorem cut_pre (x y : Str) : cutS (y ++ x) (some (y.length : Int)) none = x := by
  refine str_ext ?_
  unfold cutS
  have e : HT.sIx (y ++ x).length 0 (some (y.length : Int)) = y.length := by
    rw [HT.sIx_nat, app_len]
    omega
  rw [e, HT.sIx_none]
  show (((tl (y ++ x)).drop y.length).take ((y ++ x).length - y.length)) = tl x
  have hy : y.length = (tl y).length := str_len y
  have hx : x.length = (tl x).length := str_len x
  rw [tl_app, app_len, List.drop_append_of_le_length (by omega), List.drop_of_length_le (by omega), List.nil_append, List.take_of_length_le (by omega)]
/-! ### tokens -/
inductive Tk where
  | on
  | over
  | dead (ns : List Nat)
  | met (fs : List (List Nat))
def Tk.ok : Tk → Prop
  | .on => True
  | .over => True
  | .dead ns => ns ≠ [] ∧ ns.length ≤ 10 ∧ ∀ n ∈ ns, n < 10 ^ 12
  | .met fs => fs ≠ [] ∧ fs.length ≤ 10 ∧ ∀ f ∈ fs, f ≠ [] ∧ f.length ≤ 10 ∧ ∀ n ∈ f, n < 10 ^ 12
def natsD (ns : List Nat) : PyData := .tuple (ns.map fun n : Nat => PyData.int (n : Int))
def Tk.d : Tk → PyData
  | .on => .tuple [.str "on"]
  | .over => .tuple [.str "over"]
  | .dead ns => .tuple [.str "dead", natsD ns]
  | .met fs => .tuple [.str "met", .tuple (fs.map natsD)]
def Tk.l : Tk → Str
  | .on => "on"
  | .over => "over"
  | .dead ns => Txt.join SP (("dead" : Str) :: ns.map numS)
  | .met fs => Txt.join SP (("met" : Str) :: fs.map fun f => Txt.join CM (f.map numS))
theorem fl_no {f : List Nat} {c : Nat} (h : c < 44) : c ∉ tl (Txt.join CM (f.map numS)) := join_no (by
  have : tl CM = [44] := by decide +kernel
  rw [this]
  simp
  omega) fun p hp => by
    obtain ⟨n, _, rfl⟩ := List.mem_map.mp hp
    exact num_no (.inl (by omega))
theorem split_dead {ns : List Nat} : Txt.split (Tk.l (.dead ns)) SP = ("dead" : Str) :: ns.map numS := split_sp (by simp) fun p hp => by
  rcases List.mem_cons.mp hp with rfl | hp
  · decide +kernel
  · obtain ⟨n, _, rfl⟩ := List.mem_map.mp hp
    exact num_no (.inl (by decide))
theorem split_met {fs : List (List Nat)} : Txt.split (Tk.l (.met fs)) SP = ("met" : Str) :: fs.map fun f => Txt.join CM (f.map numS) := split_sp (by simp) fun p hp => by
  rcases List.mem_cons.mp hp with rfl | hp
  · decide +kernel
  · obtain ⟨n, _, rfl⟩ := List.mem_map.mp hp
    exact fl_no (by decide)
theorem split_fl {f : List Nat} (h : f ≠ []) : Txt.split (Txt.join CM (f.map numS)) CM = f.map numS := split_cm (by simpa using h) fun p hp => by
  obtain ⟨n, _, rfl⟩ := List.mem_map.mp hp
  exact num_no (.inl (by decide))
theorem dead_row {ns : List Nat} : 10 ∉ tl (Tk.l (.dead ns)) := join_no (by decide +kernel) fun p hp => by
  rcases List.mem_cons.mp hp with rfl | hp
  · decide +kernel
  · obtain ⟨n, _, rfl⟩ := List.mem_map.mp hp
    exact num_no (.inl (by decide))
theorem met_row {fs : List (List Nat)} : 10 ∉ tl (Tk.l (.met fs)) := join_no (by decide +kernel) fun p hp => by
  rcases List.mem_cons.mp hp with rfl | hp
  · decide +kernel
  · obtain ⟨n, _, rfl⟩ := List.mem_map.mp hp
    exact fl_no (by decide)
/-- no row of a token has a line's end in it -/
theorem tk_row (t : Tk) : 10 ∉ tl t.l := by
  cases t with
  | on => decide +kernel
  | over => decide +kernel
  | dead ns => exact dead_row
  | met fs => exact met_row
/-- the verdict -/
inductive Vd where
  | none
  | found (ns : List Int)
def Vd.ok : Vd → Prop
  | .none => True
  | .found ns => ns ≠ [] ∧ ns.length ≤ 10 ∧ ∀ n ∈ ns, n.natAbs < 10 ^ 12
def Vd.d : Vd → PyData
  | .none => .tuple [.str "none"]
  | .found ns => .tuple [.str "found", .tuple (ns.map .int)]
def Vd.l : Vd → Str
  | .none => "none"
  | .found ns => Txt.join SP (("found" : Str) :: ns.map intS)
theorem split_found {ns : List Int} : Txt.split (Vd.l (.found ns)) SP = ("found" : Str) :: ns.map intS := split_sp (by simp) fun p hp => by
  rcases List.mem_cons.mp hp with rfl | hp
  · decide +kernel
  · obtain ⟨n, _, rfl⟩ := List.mem_map.mp hp
    exact int_no (.inl (by decide)) (by decide)
theorem found_row {ns : List Int} : 10 ∉ tl (Vd.l (.found ns)) := join_no (by decide +kernel) fun p hp => by
  rcases List.mem_cons.mp hp with rfl | hp
  · decide +kernel
  · obtain ⟨n, _, rfl⟩ := List.mem_map.mp hp
    exact int_no (.inl (by decide)) (by decide)
theorem vd_row (t : Vd) : 10 ∉ tl t.l := by
  cases t with
  | none => decide +kernel
  | found ns => exact found_row
end WR
/-! W23: words of places: how a spaced text falls into words; what is a place and what is none. -/
namespace W23
open PySem PySem.Spec PyProof.Rows L2 Wy WM W3 W4 W5 W7
/-! ### spaced words, signs next to one another too -/
def joins2 (a c : Nat) : Prop := (a ∈ tl LET ∧ c ∈ tl LET) ∨ (a ∈ tl DIG ∧ c ∈ tl DIG) ∨ (a ∈ EQS ∧ c = 61)
def okNext2 (w rest : List Nat) : Prop := rest = [] ∨ ∃ a c r, w.getLast? = some a ∧ rest = c :: r ∧ ¬ joins2 a c
structure IsTok2 (w : List Nat) : Prop where
  ne : ∃ c r, w = c :: r ∧ c ≠ 32
  len : ∀ rest, okNext2 w rest → wordLen (w ++ rest) = w.length
theorem lexL_tok2 {w rest : List Nat} (h : IsTok2 w) (n : okNext2 w rest) : lexL (w ++ rest) = (lexL rest).map (w :: ·) := by
  obtain ⟨c, r, e, hc⟩ := h.ne
  have hl := h.len rest n
  subst e
  rw [List.cons_append] at hl ⊢
  rw [lexL_word hc, hl, if_neg (by simp)]
  have e1 : (c :: (r ++ rest)).drop (c :: r).length = rest := by
    rw [← List.cons_append, List.drop_left]
  have e2 : (c :: (r ++ rest)).take (c :: r).length = c :: r := by
    rw [← List.cons_append, List.take_left]
  rw [e1, e2]
theorem tok2_let {w : List Nat} (ne : w ≠ []) (h : ∀ c ∈ w, c ∈ tl LET) : IsTok2 w := by
  obtain ⟨c, r, rfl⟩ := List.exists_cons_of_ne_nil ne
  have hc := h c List.mem_cons_self
  refine ⟨⟨c, r, rfl, let32 c hc⟩, fun rest n => ?_⟩
  rw [List.cons_append]
  rw [wordLen_cons]
  rw [if_pos hc, takeWhile_run (w := r) (fun d hd => by simpa using h d (List.mem_cons_of_mem _ hd)), List.length_cons, Nat.add_comm]
  rcases n with rfl | ⟨a, d, q, ha, rfl, hn⟩
  · exact .inl rfl
  · exact .inr ⟨d, q, rfl, decide_eq_false fun hd => hn (.inl ⟨h a (getLast_mem' ha), hd⟩)⟩
theorem tok2_dig {w : List Nat} (ne : w ≠ []) (h : ∀ c ∈ w, c ∈ tl DIG) : IsTok2 w := by
  obtain ⟨c, r, rfl⟩ := List.exists_cons_of_ne_nil ne
  have hc := h c List.mem_cons_self
  refine ⟨⟨c, r, rfl, (dig32 c hc).1⟩, fun rest n => ?_⟩
  rw [List.cons_append]
  rw [wordLen_cons]
  rw [if_neg (dig32 c hc).2, if_pos hc, takeWhile_run (w := r) (fun d hd => by simpa using h d (List.mem_cons_of_mem _ hd)), List.length_cons, Nat.add_comm]
  rcases n with rfl | ⟨a, d, q, ha, rfl, hn⟩
  · exact .inl rfl
  · exact .inr ⟨d, q, rfl, decide_eq_false fun hd => hn (.inr (.inl ⟨h a (getLast_mem' ha), hd⟩))⟩
theorem tok2_one {c : Nat} (h : c ∈ tl SHO) : IsTok2 [c] := by
  obtain ⟨h1, h2, h3⟩ := sho32 c h
  refine ⟨⟨c, [], rfl, h1⟩, fun rest n => ?_⟩
  show wordLen (c :: rest) = 1
  rw [wordLen_cons]
  rw [if_neg h2, if_neg h3, if_neg, if_pos h]
  rintro ⟨h4, h5⟩
  rcases n with rfl | ⟨a, d, q, ha, rfl, hn⟩
  · cases h4
  · have e1 : d = 61 := Option.some.inj h4
    have e2 : c = a := Option.some.inj ha
    exact hn (.inr (.inr ⟨e2 ▸ h5, e1⟩))
theorem tok2_two {c : Nat} (h : c ∈ EQS) : IsTok2 [c, 61] := by
  obtain ⟨h1, h2, h3⟩ := eqs32 c h
  refine ⟨⟨c, [61], rfl, h1⟩, fun rest n => ?_⟩
  show wordLen (c :: 61 :: rest) = 2
  rw [wordLen_cons]
  rw [if_neg h2, if_neg h3, if_pos ⟨rfl, h⟩]
/-- the kinds of words -/
def isL (w : Str) : Prop := tl w ≠ [] ∧ ∀ c ∈ tl w, c ∈ tl LET
def isG (w : Str) : Prop := tl w ≠ [] ∧ ∀ c ∈ tl w, c ∈ tl DIG
def isO (w : Str) : Prop := ∃ c, c ∈ tl SHO ∧ tl w = [c]
def isT (w : Str) : Prop := ∃ c, c ∈ EQS ∧ tl w = [c, 61]
def Wd (w : Str) : Prop := isL w ∨ isG w ∨ isO w ∨ isT w
theorem Wd.tok {w : Str} (h : Wd w) : IsTok2 (tl w) := by
  rcases h with h | h | ⟨c, h, e⟩ | ⟨c, h, e⟩
  · exact tok2_let h.1 h.2
  · exact tok2_dig h.1 h.2
  · rw [e]
    exact tok2_one h
  · rw [e]
    exact tok2_two h
/-- whether a space must stand between -/
def need (x y : Str) : Bool := (Txt.isalpha x && Txt.isalpha y) || (Txt.isdigit x && Txt.isdigit y)
theorem let_alpha : ∀ c ∈ tl LET, Unicode.isAlpha c = true ∧ Unicode.isDigit c = false := by decide +kernel
theorem dig_digit : ∀ c ∈ tl DIG, Unicode.isDigit c = true ∧ Unicode.isAlpha c = false := by decide +kernel
theorem sho_none : ∀ c ∈ tl SHO, Unicode.isDigit c = false ∧ Unicode.isAlpha c = false := by decide +kernel
theorem eqs_none : ∀ c ∈ EQS, Unicode.isDigit c = false ∧ Unicode.isAlpha c = false := by decide +kernel
theorem all_of {z : Str} {f : Nat → Bool} : z.cps.all f = (tl z).all f := by rw [← Array.all_toList]
theorem isalpha_of {z : Str} : Txt.isalpha z = (decide (tl z ≠ []) && (tl z).all Unicode.isAlpha) := by
  show (decide (z.length > 0) && z.cps.all Unicode.isAlpha) = _
  have e : decide (z.length > 0) = decide (tl z ≠ []) := by
    rw [decide_eq_decide, str_len]
    exact List.length_pos_iff
  rw [e, all_of]
theorem isdigit_of {z : Str} : Txt.isdigit z = (decide (tl z ≠ []) && (tl z).all Unicode.isDigit) := by
  show (decide (z.length > 0) && z.cps.all Unicode.isDigit) = _
  have e : decide (z.length > 0) = decide (tl z ≠ []) := by
    rw [decide_eq_decide, str_len]
    exact List.length_pos_iff
  rw [e, all_of]
theorem isL.alpha {w : Str} (h : isL w) : Txt.isalpha w = true := by
  rw [isalpha_of, decide_eq_true h.1, Bool.true_and, List.all_eq_true]
  exact fun c hc => (let_alpha c (h.2 c hc)).1
theorem isG.digit {w : Str} (h : isG w) : Txt.isdigit w = true := by
  rw [isdigit_of, decide_eq_true h.1, Bool.true_and, List.all_eq_true]
  exact fun c hc => (dig_digit c (h.2 c hc)).1
/-- a word of digits -/
theorem Wd.dig {w : Str} (h : Wd w) : Txt.isdigit w = true ↔ isG w := by
  refine ⟨fun e => ?_, isG.digit⟩
  rw [isdigit_of, Bool.and_eq_true, List.all_eq_true] at e
  obtain ⟨h1, h2⟩ := e
  rcases h with h | h | ⟨c, h, e⟩ | ⟨c, h, e⟩
  · obtain ⟨c, r, e⟩ := List.exists_cons_of_ne_nil h.1
    have hc := h2 c (by rw [e]; exact List.mem_cons_self)
    rw [(let_alpha c (h.2 c (by rw [e]; exact List.mem_cons_self))).2] at hc
    cases hc
  · exact h
  · have hc := h2 c (by rw [e]; exact List.mem_cons_self)
    rw [(sho_none c h).1] at hc
    cases hc
  · have hc := h2 c (by rw [e]; exact List.mem_cons_self)
    rw [(eqs_none c h).1] at hc
    cases hc
/-- words that may not meet: a sign that ends like < and one that begins with = -/
def nj (w v : Str) : Bool := match (tl w).getLast?, (tl v).head? with
  | some a, some c => !(decide (a ∈ EQS) && decide (c = 61))
  | _, _ => true
def Nj : List Str → Bool
  | [] => true
  | [_] => true
  | w :: v :: r => nj w v && Nj (v :: r)
theorem no_join2 {w v : Str} (hw : Wd w) (hv : Wd v) (hn : need w v = false) (hj : nj w v = true) {a c : Nat} (ea : (tl w).getLast? = some a) (ec : (tl v).head? = some c) : ¬ joins2 a c := by
  have ma : a ∈ tl w := List.mem_of_getLast? ea
  have mc : c ∈ tl v := List.mem_of_head? ec
  have letd : ∀ c ∈ tl LET, c ∉ tl DIG ∧ c ∉ tl SHO ∧ c ∉ EQS ∧ c ≠ 61 := by decide +kernel
  have digd : ∀ c ∈ tl DIG, c ∉ tl LET ∧ c ∉ tl SHO ∧ c ∉ EQS ∧ c ≠ 61 := by decide +kernel
  have isLd : ∀ {w : Str} {a : Nat}, Wd w → a ∈ tl w → a ∈ tl LET → isL w := fun {w a} hw ma h => by
    rcases hw with h1 | h1 | ⟨d, h1, e⟩ | ⟨d, h1, e⟩
    · exact h1
    · exact absurd (h1.2 a ma) (letd a h).1
    · rw [e] at ma
      rw [List.mem_singleton.mp ma] at h
      exact absurd h1 (letd d h).2.1
    · rw [e] at ma
      simp only [List.mem_cons, List.not_mem_nil, or_false] at ma
      rcases ma with rfl | rfl
      · exact absurd h1 (letd _ h).2.2.1
      · exact absurd rfl (letd _ h).2.2.2
  have isGd : ∀ {w : Str} {a : Nat}, Wd w → a ∈ tl w → a ∈ tl DIG → isG w := fun {w a} hw ma h => by
    rcases hw with h1 | h1 | ⟨d, h1, e⟩ | ⟨d, h1, e⟩
    · exact absurd (h1.2 a ma) (digd a h).1
    · exact h1
    · rw [e] at ma
      rw [List.mem_singleton.mp ma] at h
      exact absurd h1 (digd d h).2.1
    · rw [e] at ma
      simp only [List.mem_cons, List.not_mem_nil, or_false] at ma
      rcases ma with rfl | rfl
      · exact absurd h1 (digd _ h).2.2.1
      · exact absurd rfl (digd _ h).2.2.2
  unfold need at hn
  rw [Bool.or_eq_false_iff] at hn
  rintro (⟨h1, h2⟩ | ⟨h1, h2⟩ | ⟨h1, h2⟩)
  · have := hn.1
    rw [(isLd hw ma h1).alpha, (isLd hv mc h2).alpha] at this
    cases this
  · have := hn.2
    rw [(isGd hw ma h1).digit, (isGd hv mc h2).digit] at this
    cases this
  · unfold nj at hj
    rw [ea, ec] at hj
    have hj : (!(decide (a ∈ EQS) && decide (c = 61))) = true := hj
    rw [decide_eq_true h1, decide_eq_true h2] at hj
    cases hj
/-- spaces behind each word, so many that it does not run together with the next -/
def Gaps : List (Str × Nat) → Prop
  | [] => True
  | [_] => True
  | (w, n) :: (v, m) :: r => (need w v = true → 0 < n) ∧ Gaps ((v, m) :: r)
def glueS : List (Str × Nat) → List Nat
  | [] => []
  | (w, n) :: r => tl w ++ (List.replicate n 32 ++ glueS r)
theorem glueS_lex : ∀ {g : List (Str × Nat)}, (∀ p ∈ g, Wd p.1) → Gaps g → Nj (g.map (·.1)) = true → lexL (glueS g) = some (g.map fun p => tl p.1)
  | [], _, _, _ => rfl
  | [(w, n)], h, _, _ => by
    have h : Wd w := h _ List.mem_cons_self
    show lexL (tl w ++ (List.replicate n 32 ++ [])) = _
    obtain ⟨c, r, e, hc⟩ := h.tok.ne
    have hlast : ∃ a, (tl w).getLast? = some a := by
      rw [e, List.getLast?_cons]
      exact ⟨_, rfl⟩
    rw [lexL_tok2 h.tok, lexL_spaces]
    · rfl
    · cases n with
      | zero => exact .inl rfl
      | succ n =>
        obtain ⟨a, ha⟩ := hlast
        refine .inr ⟨a, 32, List.replicate n 32 ++ [], ha, by rw [List.replicate_succ]; rfl, ?_⟩
        rintro (⟨_, h⟩ | ⟨_, h⟩ | ⟨_, h⟩)
        · exact let32 32 h rfl
        · exact (dig32 32 h).1 rfl
        · cases h
  | (w, n) :: (v, m) :: r, h, g, j => by
    have hw : Wd w := h _ List.mem_cons_self
    have hv : Wd v := h (v, m) (List.mem_cons_of_mem _ List.mem_cons_self)
    obtain ⟨g1, g2⟩ := g
    have j2 : (nj w v && Nj (v :: r.map (·.1))) = true := j
    clear j
    rw [Bool.and_eq_true] at j2
    have ih := glueS_lex (g := (v, m) :: r) (fun p hp => h p (List.mem_cons_of_mem _ hp)) g2 j2.2
    show lexL (tl w ++ (List.replicate n 32 ++ glueS ((v, m) :: r))) = _
    obtain ⟨c, q, e, hc⟩ := hw.tok.ne
    obtain ⟨c2, q2, e2, hc2⟩ := hv.tok.ne
    have hlast : ∃ a, (tl w).getLast? = some a := by
      rw [e, List.getLast?_cons]
      exact ⟨_, rfl⟩
    obtain ⟨a, ha⟩ := hlast
    rw [lexL_tok2 hw.tok, lexL_spaces, ih]
    · rfl
    · cases n with
      | zero =>
        refine .inr ⟨a, c2, q2 ++ (List.replicate m 32 ++ glueS r), ha, ?_, ?_⟩
        · show tl v ++ _ = _
          rw [e2]
          rfl
        · refine no_join2 hw hv ?_ j2.1 ha (by rw [e2]; rfl)
          cases hn : need w v with
          | false => rfl
          | true => exact absurd (g1 hn) (Nat.lt_irrefl 0)
      | succ n =>
        refine .inr ⟨a, 32, List.replicate n 32 ++ glueS ((v, m) :: r), ha, by rw [List.replicate_succ]; rfl, ?_⟩
        rintro (⟨_, h⟩ | ⟨_, h⟩ | ⟨_, h⟩)
        · exact let32 32 h rfl
        · exact (dig32 32 h).1 rfl
        · cases h
theorem words_spaced {z : Str} {k : Nat} {g : List (Str × Nat)} (e : tl z = List.replicate k 32 ++ glueS g) (h : ∀ p ∈ g, Wd p.1) (hg : Gaps g) (hj : Nj (g.map (·.1)) = true) : wordsW z = some (g.map (·.1)) := by
  rw [words_lex, e, lexL_spaces, glueS_lex h hg hj]
  show some ((g.map fun p => tl p.1).map mkS) = _
  rw [List.map_map]
  congr 1
/-! ### a strange sign -/
def OKD (c : Nat) : Prop := c ∈ tl LET ∨ c ∈ tl DIG ∨ c ∈ tl SHO ∨ c = 32 ∨ c = 33
theorem lex_bad2 : ∀ {k : Nat} {l : List Nat}, l.length ≤ k → (∃ c ∈ l, ¬ OKD c) → lexL l = none
  | 0, l, h, ⟨c, hc, _⟩ => by
    have e : l = [] := List.length_eq_zero_iff.mp (by omega)
    rw [e] at hc
    cases hc
  | k + 1, [], _, ⟨c, hc, _⟩ => by cases hc
  | k + 1, c :: r, h, ⟨b, hb, nb⟩ => by
    rw [List.length_cons] at h
    by_cases hs : c = 32
    · rw [hs, lexL_space]
      refine lex_bad2 (k := k) (by omega) ?_
      rcases List.mem_cons.mp hb with e | hb
      · exact absurd (.inr (.inr (.inr (.inl (e.trans hs))))) nb
      · exact ⟨b, hb, nb⟩
    · rw [lexL_word hs]
      split
      · rfl
      · rename_i hw
        have hok : ∀ d ∈ (c :: r).take (wordLen (c :: r)), OKD d := by
          have tw : ∀ (p : List Nat) (n : Nat), n = 1 + (r.takeWhile fun d => decide (d ∈ p)).length → c ∈ p → ∀ d ∈ (c :: r).take n, d ∈ p := fun p n hn hc d hd => by
            rw [hn, Nat.add_comm, List.take_succ_cons] at hd
            rcases List.mem_cons.mp hd with e | hd
            · rw [e]
              exact hc
            · have e : r.take (r.takeWhile fun d => decide (d ∈ p)).length = r.takeWhile fun d => decide (d ∈ p) := by
                have := List.takeWhile_prefix (fun d => decide (d ∈ p)) (l := r)
                exact (List.prefix_iff_eq_take.mp this).symm
              rw [e] at hd
              simpa using tw_mem hd
          rw [wordLen_cons]
          intro d hd
          split at hd
          · rename_i h1
            exact .inl (tw _ _ rfl h1 d hd)
          · split at hd
            · rename_i h1
              exact .inr (.inl (tw _ _ rfl h1 d hd))
            · split at hd
              · rename_i h1
                have key : ∀ c ∈ EQS, OKD c := by
                  have : ∀ c ∈ EQS, c ∈ tl SHO ∨ c = 33 := by decide +kernel
                  intro c hc
                  rcases this c hc with h | h
                  · exact .inr (.inr (.inl h))
                  · exact .inr (.inr (.inr (.inr h)))
                obtain ⟨h1, h2⟩ := h1
                cases r with
                | nil => cases h1
                | cons x r =>
                  have e1 : x = 61 := Option.some.inj h1
                  have hd : d ∈ [c, x] := hd
                  simp only [List.mem_cons, List.not_mem_nil, or_false] at hd
                  rcases hd with rfl | rfl
                  · exact key _ h2
                  · exact key _ (by rw [e1]; decide)
              · split at hd
                · rename_i h1
                  have e : d = c := by simpa using hd
                  exact .inr (.inr (.inl (e ▸ h1)))
                · cases hd
        have hd : ((c :: r).drop (wordLen (c :: r))).length ≤ k := by
          rw [List.length_drop, List.length_cons]
          omega
        rw [lex_bad2 hd ?_]
        · rfl
        · rw [← List.take_append_drop (wordLen (c :: r)) (c :: r)] at hb
          rcases List.mem_append.mp hb with hb | hb
          · exact absurd (hok b hb) nb
          · exact ⟨b, hb, nb⟩
theorem words_bad2 {z : Str} (b : ∃ c ∈ tl z, ¬ OKD c) : wordsW z = none := by
  rw [words_lex, lex_bad2 (Nat.le_refl _) b]
  rfl
theorem glueS_mem : ∀ {g : List (Str × Nat)} {p : Str × Nat} {c : Nat}, p ∈ g → c ∈ tl p.1 → c ∈ glueS g
  | q :: r, p, c, h, hc => by
    show c ∈ tl q.1 ++ (List.replicate q.2 32 ++ glueS r)
    rcases List.mem_cons.mp h with rfl | h
    · exact List.mem_append_left _ hc
    · exact List.mem_append_right _ (List.mem_append_right _ (glueS_mem h hc))
end W23
/-! WV30: what a row of a paper is, for any text; in plain Lean. -/
namespace W30
open PySem PySem.Spec PyProof.Rows L2 Wy WM W3 W4 WR
def nmO (z : Str) : Option Int := if numW 12 z = true then some (dv z) else none
theorem nm_int {z : Str} (h : numW 12 z = true) : intText? z = some (dv z) ∧ z.length ≤ 640 := by
  unfold numW at h
  simp only [Bool.and_eq_true, decide_eq_true_eq] at h
  obtain ⟨⟨⟨h1, h2⟩, h3⟩, _⟩ := h
  exact ⟨intText_digits (fun c hc => dig_range c (h3 c hc)) (ne_of_len h1) (by omega), by omega⟩
theorem dv_nat (z : Str) : 0 ≤ dv z := Int.natCast_nonneg _
theorem nmO_num {n : Nat} (h : n < 10 ^ 12) : nmO (numS n) = some (n : Int) := by
  unfold nmO
  rw [if_pos (numW_num (by decide) h), numS_dv]
def iD : Option Int → PyData
  | none => .none
  | some i => .int i
def iV : Option Int → V
  | none => .non
  | some i => .int i
theorem tp_iV {H : Hp} (o : Option Int) : Tp H (iV o) (iD o) := by
  cases o with
  | none => exact .non
  | some i => exact .int i
def isN : PyData → Bool
  | .none => true
  | _ => false
def wnO (z p0 : Str) (ds : List PyData) : PyData := if decide (p0 = z) && (!ds.isEmpty && !ds.any isN) then .tuple [.str z, .tuple ds] else .none
def cmO (z : Str) : PyData := if ((Txt.split z CM).map fun x => iD (nmO x)).any isN then .none else .tuple ((Txt.split z CM).map fun x => iD (nmO x))
def sgO (z : Str) : Option Int := if Txt.startswith z "-" then (match nmO (cutS z (some 1) none) with
    | none => none
    | some n => if n = 0 then none else some (-n))
  else nmO z
def tkL (p0 : Str) (ps : List Str) : PyData := if (p0 = "on" ∧ ps = []) ∨ (p0 = "over" ∧ ps = []) then .tuple [.str p0] else if p0 = "met" then wnO "met" p0 (ps.map cmO) else wnO "dead" p0 (ps.map fun x => iD (nmO x))
def tkO (z : Str) : PyData := match Txt.split z SP with
  | [] => .none
  | p0 :: ps => tkL p0 ps
def vdL (p0 : Str) (ps : List Str) : PyData := if p0 = "none" ∧ ps = [] then .tuple [.str "none"] else wnO "found" p0 (ps.map fun x => iD (sgO x))
def vdO (z : Str) : PyData := match Txt.split z SP with
  | [] => .none
  | p0 :: ps => vdL p0 ps
def szO (w z : Str) : Option Int := match Txt.split z SP with
  | [p0, p1] => if p0 = w then (match nmO p1 with
      | none => none
      | some n => if n = 0 then none else some n)
    else none
  | _ => none
def sbO (z : Str) : PyData := if Txt.startswith z "place " then .tuple [.str "place", .str (cutS z (some 6) none)] else match szO "apart" z with
  | none => .none
  | some n => .tuple [.str "apart", .int n]
/-- a row that is short and of common signs -/
structure Row (z : Str) : Prop where
  l : z.length ≤ 2000
  a : ∀ c ∈ tl z, c < 128
/-! ### the pieces of any text -/
def pcs (s : Nat) : List Nat → List (List Nat)
  | [] => [[]]
  | c :: r => if c = s then [] :: pcs s r else match pcs s r with
    | p :: ps => (c :: p) :: ps
    | [] => [[c]]
theorem pcs_ne (s : Nat) : ∀ l, pcs s l ≠ []
  | [] => by simp [pcs]
  | c :: r => by
    unfold pcs
    split
    · simp
    · split <;> simp
theorem pcs_no (s : Nat) : ∀ l, ∀ p ∈ pcs s l, s ∉ p
  | [], p, h => by
    simp [pcs] at h
    subst h
    simp
  | c :: r, p, h => by
    have ih := pcs_no s r
    unfold pcs at h
    split at h
    · rcases List.mem_cons.mp h with rfl | h
      · simp
      · exact ih p h
    · rename_i hc
      split at h
      · rename_i q qs e
        rw [e] at ih
        rcases List.mem_cons.mp h with rfl | h
        · intro hm
          rcases List.mem_cons.mp hm with z | hm
          · exact hc z.symm
          · exact ih q List.mem_cons_self hm
        · exact ih p (List.mem_cons_of_mem _ h)
      · rename_i e
        exact absurd e (pcs_ne s r)
theorem pcs_join (s : Nat) : ∀ l, TL.joinL [s] (pcs s l) = l
  | [] => rfl
  | c :: r => by
    have ih := pcs_join s r
    unfold pcs
    split
    · rename_i hc
      cases e : pcs s r with
      | nil => exact absurd e (pcs_ne s r)
      | cons p ps =>
        rw [e] at ih
        show [] ++ ([s] ++ TL.joinL [s] (p :: ps)) = c :: r
        rw [ih, hc]
        rfl
    · cases e : pcs s r with
      | nil => exact absurd e (pcs_ne s r)
      | cons p ps =>
        rw [e] at ih
        show TL.joinL [s] ((c :: p) :: ps) = c :: r
        cases ps with
        | nil =>
          have ih : p = r := ih
          show c :: p = c :: r
          rw [ih]
        | cons q qs =>
          have ih : p ++ ([s] ++ TL.joinL [s] (q :: qs)) = r := ih
          show (c :: p) ++ ([s] ++ TL.joinL [s] (q :: qs)) = c :: r
          rw [List.cons_append, ih]
theorem pcs_sub (s : Nat) : ∀ l, ∀ p ∈ pcs s l, p.length ≤ l.length ∧ ∀ c ∈ p, c ∈ l
  | [], p, h => by
    simp [pcs] at h
    subst h
    simp
  | c :: r, p, h => by
    have ih := pcs_sub s r
    unfold pcs at h
    split at h
    · rcases List.mem_cons.mp h with rfl | h
      · simp
      · obtain ⟨h1, h2⟩ := ih p h
        exact ⟨by rw [List.length_cons]; omega, fun x hx => List.mem_cons_of_mem _ (h2 x hx)⟩
    · split at h
      · rename_i q qs e
        rw [e] at ih
        rcases List.mem_cons.mp h with rfl | h
        · obtain ⟨h1, h2⟩ := ih q List.mem_cons_self
          refine ⟨by rw [List.length_cons, List.length_cons]; omega, fun x hx => ?_⟩
          rcases List.mem_cons.mp hx with rfl | hx
          · exact List.mem_cons_self
          · exact List.mem_cons_of_mem _ (h2 x hx)
        · obtain ⟨h1, h2⟩ := ih p (List.mem_cons_of_mem _ h)
          exact ⟨by rw [List.length_cons]; omega, fun x hx => List.mem_cons_of_mem _ (h2 x hx)⟩
      · rename_i e
        exact absurd e (pcs_ne s r)
theorem pcs_many (s : Nat) : ∀ l, (pcs s l).length ≤ l.length + 1
  | [] => by simp [pcs]
  | c :: r => by
    have ih := pcs_many s r
    unfold pcs
    split
    · rw [List.length_cons, List.length_cons]
      omega
    · split
      · rename_i q qs e
        rw [e] at ih
        rw [List.length_cons] at ih ⊢
        rw [List.length_cons]
        omega
      · simp
theorem split_any {z y : Str} {s : Nat} (e : tl y = [s]) (hk : y.cps.all (· < 256) = true) : Txt.split z y = (pcs s (tl z)).map mkS := by
  have h1 : z = Txt.join y ((pcs s (tl z)).map mkS) := by
    refine str_ext ?_
    show tl z = tl _
    rw [jl, e, List.map_map, show (tl ∘ mkS) = id from funext fun l => mkS_tl l, List.map_id, pcs_join]
  have h2 := TL.split_join (y := y) (s := s) (S := []) e hk (parts := (pcs s (tl z)).map mkS) (by simpa using pcs_ne s (tl z)) fun p hp => by
    obtain ⟨q, hq, rfl⟩ := List.mem_map.mp hp
    show s ∉ tl (mkS q)
    rw [mkS_tl]
    exact pcs_no s _ q hq
  rw [← h1] at h2
  exact h2
/-- the pieces of a row are rows -/
theorem split_row {z y : Str} {s : Nat} (h : Row z) (e : tl y = [s]) (hk : y.cps.all (· < 256) = true) : ∃ p ps, Txt.split z y = p :: ps ∧ (∀ x ∈ p :: ps, Row x ∧ s ∉ tl x) ∧ (p :: ps).length ≤ 2001 := by
  rw [split_any e hk]
  have hl : (tl z).length = z.length := (str_len z).symm
  cases q : pcs s (tl z) with
  | nil => exact absurd q (pcs_ne s _)
  | cons p ps =>
    have sub := pcs_sub s (tl z)
    have no := pcs_no s (tl z)
    have many := pcs_many s (tl z)
    rw [q] at sub no many
    refine ⟨mkS p, ps.map mkS, rfl, fun x hx => ?_, ?_⟩
    · obtain ⟨w, hw, rfl⟩ := List.mem_map.mp (show x ∈ (p :: ps).map mkS from hx)
      obtain ⟨h1, h2⟩ := sub w hw
      refine ⟨⟨?_, fun c hc => ?_⟩, ?_⟩
      · rw [str_len]
        show (tl (mkS w)).length ≤ 2000
        rw [mkS_tl]
        have := h.l
        omega
      · rw [mkS_tl] at hc
        exact h.a c (h2 c hc)
      · rw [mkS_tl]
        exact no w hw
    · have := h.l
      rw [List.length_cons, List.length_map, ← List.length_cons (a := p)]
      omega
end W30
/-! W23B: atoms and places as words; words near a place that are none. -/
namespace W23
open PySem PySem.Spec PyProof.Rows L2 Wy WM W3 W4 W5 W7
open W30 (isN)
/-! ### reading from a later place -/
def up {α : Type} (n : Nat) (o : Option (α × Nat)) : Option (α × Nat) := o.map fun q => (q.1, n + q.2)
theorem signed_pre (pre l : List Str) (k : Nat) : takeSigned (pre ++ l) (pre.length + k) = up pre.length (takeSigned l k) := by
  unfold takeSigned
  rw [wordAt_pre, show pre.length + k + 1 = pre.length + (k + 1) by omega, wordAt_pre]
  split
  · rfl
  · split
    · rfl
    · rfl
theorem plus_pre (pre l : List Str) (k : Nat) : takePlus (pre ++ l) (pre.length + k) = up pre.length (takePlus l k) := by
  unfold takePlus
  rw [wordAt_pre, show pre.length + k + 1 = pre.length + (k + 1) by omega, wordAt_pre]
  split
  · split
    · rfl
    · rfl
  · rfl
theorem plain_pre (pre l : List Str) (k : Nat) : takePlain (pre ++ l) (pre.length + k) = up pre.length (takePlain l k) := by
  unfold takePlain
  rw [wordAt_pre, show pre.length + k + 1 = pre.length + (k + 1) by omega, plus_pre, signed_pre]
  split
  · cases takePlus l (k + 1) with
    | none => rfl
    | some q => rfl
  · cases takeSigned l k with
    | none => rfl
    | some q => rfl
theorem expr_pre (pre l : List Str) (k : Nat) : takeExpr (pre ++ l) (pre.length + k) = up pre.length (takeExpr l k) := by
  unfold takeExpr
  rw [wordAt_pre, show pre.length + k + 1 = pre.length + (k + 1) by omega, wordAt_pre, show pre.length + k + 2 = pre.length + (k + 2) by omega, plain_pre, plain_pre]
  split
  · cases takePlain l (k + 2) with
    | none => rfl
    | some q =>
      obtain ⟨x, j⟩ := q
      show (if wordAt (pre ++ l) (pre.length + j) = "]" then (match takePlus (pre ++ l) (pre.length + j + 1) with | none => none | some (p, k) => some (Ex.item (wordAt l _) x p, k)) else none) = up pre.length (if wordAt l j = "]" then (match takePlus l (j + 1) with | none => none | some (p, k) => some (Ex.item (wordAt l _) x p, k)) else none)
      rw [wordAt_pre, show pre.length + j + 1 = pre.length + (j + 1) by omega, plus_pre]
      split
      · cases takePlus l (j + 1) with
        | none => rfl
        | some q => rfl
      · rfl
  · rfl
theorem expr_at (pre l : List Str) : takeExpr (pre ++ l) pre.length = up pre.length (takeExpr l 0) := expr_pre pre l 0
/-! ### expressions that are cut or have a wrong number -/
theorem name_no {x y : Str} (h : nameW x = true) (hy : nameW y = false) : x ≠ y := fun e => by
  rw [e, hy] at h
  cases h
theorem no_expr {l : List Str} (h1 : nameW (wordAt l 0) = false) (h2 : numberW (wordAt l 0) = false) (h3 : wordAt l 0 = "-" → numberW (wordAt l 1) = false) : takeExpr l 0 = none := by
  have hp : takePlain l 0 = none := by
    unfold takePlain
    rw [h1, if_neg Bool.false_ne_true]
    unfold takeSigned
    rw [h2, if_neg Bool.false_ne_true, if_neg]
    rintro ⟨a, b⟩
    rw [h3 a] at b
    cases b
  unfold takeExpr
  rw [if_neg, hp]
  rintro ⟨a, _⟩
  rw [h1] at a
  cases a
theorem no_plain {l : List Str} (h1 : nameW (wordAt l 0) = false) (h2 : numberW (wordAt l 0) = false) (h3 : wordAt l 0 = "-" → numberW (wordAt l 1) = false) : takePlain l 0 = none := by
  unfold takePlain
  rw [h1, if_neg Bool.false_ne_true]
  unfold takeSigned
  rw [h2, if_neg Bool.false_ne_true, if_neg]
  rintro ⟨a, b⟩
  rw [h3 a] at b
  cases b
/-- a plus behind which no number stands -/
theorem no_plus {l : List Str} {k : Nat} (h : wordAt l k = "+" ∨ wordAt l k = "-") (h2 : numberW (wordAt l (k + 1)) = false) : takePlus l k = none := by
  unfold takePlus
  rw [if_pos h, h2, if_neg Bool.false_ne_true]
theorem no_var {x : Str} {l : List Str} (hx : nameW x = true) (h : wordAt l 0 = "+" ∨ wordAt l 0 = "-") (h2 : numberW (wordAt l 1) = false) : takePlain (x :: l) 0 = none := by
  unfold takePlain
  rw [show wordAt (x :: l) 0 = x from rfl, hx, if_pos rfl, no_plus (l := x :: l) (k := 1) h h2]
theorem no_var2 {x : Str} {l : List Str} (hx : nameW x = true) (h : wordAt l 0 = "+" ∨ wordAt l 0 = "-") (h2 : numberW (wordAt l 1) = false) : takeExpr (x :: l) 0 = none := by
  unfold takeExpr
  rw [if_neg, no_var hx h h2]
  rintro ⟨_, e⟩
  have e : wordAt l 0 = "[" := e
  rw [e] at h
  revert h
  decide +kernel
theorem no_item {x : Str} {l : List Str} (hx : nameW x = true) (h : takePlain l 0 = none) : takeExpr (x :: ("[" : Str) :: l) 0 = none := by
  have h2 := plain_pre [x, ("[" : Str)] l 0
  rw [h] at h2
  have h2 : takePlain (x :: ("[" : Str) :: l) 2 = none := h2
  unfold takeExpr
  rw [if_pos ⟨hx, rfl⟩, h2]
theorem no_close {x : Str} {i : Ex} {l : List Str} (hx : nameW x = true) (hi : Plain i) (hs : NoSign l) (h : wordAt l 0 ≠ "]" ∨ takePlus l 1 = none) : takeExpr (x :: ("[" : Str) :: (wordsE i ++ l)) 0 = none := by
  have h1 := plain_read (pre := []) hi hs
  have h2 := plain_pre [x, ("[" : Str)] (wordsE i ++ l) 0
  rw [List.nil_append, List.length_nil, Nat.zero_add] at h1
  rw [h1] at h2
  have h2 : takePlain (x :: ("[" : Str) :: (wordsE i ++ l)) 2 = some (i, 2 + (wordsE i).length) := h2
  have h3 := wordAt_pre (x :: ("[" : Str) :: wordsE i) l 0
  have h4 := plus_pre (x :: ("[" : Str) :: wordsE i) l 1
  have e3 : (x :: ("[" : Str) :: wordsE i) ++ l = x :: ("[" : Str) :: (wordsE i ++ l) := rfl
  have e4 : (x :: ("[" : Str) :: wordsE i).length = 2 + (wordsE i).length := by rw [List.length_cons, List.length_cons]; omega
  rw [e3, e4] at h3 h4
  unfold takeExpr
  rw [if_pos ⟨hx, rfl⟩, h2]
  show (if wordAt _ (2 + (wordsE i).length) = "]" then (match takePlus _ (2 + (wordsE i).length + 1) with | none => none | some (p, k) => some (Ex.item _ i p, k)) else none) = none
  rw [show 2 + (wordsE i).length = 2 + (wordsE i).length + 0 from rfl, h3]
  split
  · rcases h with h | h
    · rename_i c
      exact absurd c h
    · rw [show 2 + (wordsE i).length + 0 + 1 = 2 + (wordsE i).length + 1 from rfl, h4, h]
      rfl
  · rfl
/-- a word of digits that is no number -/
structure BadNum (D : Str) : Prop where
  g : isG D
  n : numberW D = false
theorem letdig : ∀ c ∈ tl LET, c ∉ tl DIG := by decide +kernel
theorem BadNum.name {D : Str} (h : BadNum D) : nameW D = false := by
  cases e : nameW D with
  | false => rfl
  | true =>
    obtain ⟨c, r, ec⟩ := List.exists_cons_of_ne_nil h.g.1
    have hc : c ∈ tl D := by rw [ec]; exact List.mem_cons_self
    exact absurd (h.g.2 c hc) (letdig c ((name_parts e).2.2.2 c hc))
theorem BadNum.minus {D : Str} (h : BadNum D) : D ≠ "-" := fun e => by
  have := h.g.2 45 (by rw [e]; decide +kernel)
  revert this
  decide +kernel
theorem name_noG {x : Str} (h : nameW x = true) : ¬ isG x := fun g => by
  obtain ⟨c, r, ec⟩ := List.exists_cons_of_ne_nil g.1
  have hc : c ∈ tl x := by rw [ec]; exact List.mem_cons_self
  exact letdig c ((name_parts h).2.2.2 c hc) (g.2 c hc)
theorem noG_of {x : Str} {c : Nat} (h : c ∈ tl x) (hc : c ∉ tl DIG) : ¬ isG x := fun g => hc (g.2 c h)
theorem plus_eq {p : Int} (h : p ≠ 0) : plusW p = [if 0 < p then ("+" : Str) else "-", numS p.natAbs] := if_neg h
theorem sg_or (p : Int) : (if 0 < p then ("+" : Str) else "-") = "+" ∨ (if 0 < p then ("+" : Str) else "-") = "-" := by
  split
  · exact .inl rfl
  · exact .inr rfl
theorem sg_noG (p : Int) : ¬ isG (if 0 < p then ("+" : Str) else "-") := by
  split
  · exact noG_of (c := 43) (by decide +kernel) (by decide +kernel)
  · exact noG_of (c := 45) (by decide +kernel) (by decide +kernel)
theorem plain_bad {e : Ex} (h : Plain e) {i : Nat} {w D : Str} (hi : (wordsE e)[i]? = some w) (hw : isG w) (hD : BadNum D) (suf : List Str) : takePlain ((wordsE e).set i D ++ suf) 0 = none := by
  cases e with
  | num n =>
    by_cases hn : n < 0
    · have e0 : wordsE (.num n) = [("-" : Str), numS (-n).toNat] := if_pos hn
      rw [e0] at hi ⊢
      match i, hi with
      | 0, hi =>
        cases hi
        exact absurd hw (noG_of (c := 45) (by decide +kernel) (by decide +kernel))
      | 1, _ =>
        refine no_plain (by show nameW ("-" : Str) = false; decide +kernel) (by show numberW ("-" : Str) = false; decide +kernel) fun _ => hD.n
    · have e0 : wordsE (.num n) = [numS n.toNat] := if_neg hn
      rw [e0] at hi ⊢
      match i, hi with
      | 0, _ => exact no_plain hD.name hD.n fun e => absurd e hD.minus
  | var x p =>
    have e0 : wordsE (.var x p) = x :: plusW p := rfl
    rw [e0] at hi ⊢
    match i, hi with
    | 0, hi =>
      cases hi
      exact absurd hw (name_noG h.1)
    | i + 1, hi =>
      have hi : (plusW p)[i]? = some w := hi
      by_cases hp : p = 0
      · have e1 : plusW p = [] := if_pos hp
        rw [e1] at hi
        cases hi
      · rw [plus_eq hp] at hi ⊢
        match i, hi with
        | 0, hi =>
          cases hi
          exact absurd hw (sg_noG p)
        | 1, _ => exact no_var h.1 (sg_or p) hD.n
  | item x i p => exact h.elim
theorem expr_bad {e : Ex} (h : Good e) {i : Nat} {w D : Str} (hi : (wordsE e)[i]? = some w) (hw : isG w) (hD : BadNum D) (suf : List Str) : takeExpr ((wordsE e).set i D ++ suf) 0 = none := by
  cases e with
  | num n =>
    by_cases hn : n < 0
    · have e0 : wordsE (.num n) = [("-" : Str), numS (-n).toNat] := if_pos hn
      rw [e0] at hi ⊢
      match i, hi with
      | 0, hi =>
        cases hi
        exact absurd hw (noG_of (c := 45) (by decide +kernel) (by decide +kernel))
      | 1, _ =>
        refine no_expr (by show nameW ("-" : Str) = false; decide +kernel) (by show numberW ("-" : Str) = false; decide +kernel) fun _ => hD.n
    · have e0 : wordsE (.num n) = [numS n.toNat] := if_neg hn
      rw [e0] at hi ⊢
      match i, hi with
      | 0, _ => exact no_expr hD.name hD.n fun e => absurd e hD.minus
  | var x p =>
    have e0 : wordsE (.var x p) = x :: plusW p := rfl
    rw [e0] at hi ⊢
    match i, hi with
    | 0, hi =>
      cases hi
      exact absurd hw (name_noG h.1)
    | i + 1, hi =>
      have hi : (plusW p)[i]? = some w := hi
      by_cases hp : p = 0
      · have e1 : plusW p = [] := if_pos hp
        rw [e1] at hi
        cases hi
      · rw [plus_eq hp] at hi ⊢
        match i, hi with
        | 0, hi =>
          cases hi
          exact absurd hw (sg_noG p)
        | 1, _ => exact no_var2 h.1 (sg_or p) hD.n
  | item x j p =>
    obtain ⟨hx, hj, hp⟩ := h
    have e0 : wordsE (.item x j p) = x :: ("[" : Str) :: (wordsE j ++ (("]" : Str) :: plusW p)) := by
      show [x, ("[" : Str)] ++ wordsE j ++ [("]" : Str)] ++ plusW p = _
      simp
    rw [e0] at hi ⊢
    match i, hi with
    | 0, hi =>
      cases hi
      exact absurd hw (name_noG hx)
    | 1, hi =>
      cases hi
      exact absurd hw (noG_of (c := 91) (by decide +kernel) (by decide +kernel))
    | i + 2, hi =>
      have hi : (wordsE j ++ (("]" : Str) :: plusW p))[i]? = some w := hi
      show takeExpr (x :: ("[" : Str) :: ((wordsE j ++ (("]" : Str) :: plusW p)).set i D ++ suf)) 0 = none
      by_cases c : i < (wordsE j).length
      · rw [List.getElem?_append_left c] at hi
        rw [List.set_append_left _ _ c, List.append_assoc]
        exact no_item hx (plain_bad hj hi hw hD _)
      · rw [List.getElem?_append_right (by omega)] at hi
        rw [List.set_append_right _ _ (by omega)]
        generalize i - (wordsE j).length = k at hi ⊢
        match k, hi with
        | 0, hi =>
          cases hi
          exact absurd hw (noG_of (c := 93) (by decide +kernel) (by decide +kernel))
        | k + 1, hi =>
          have hi : (plusW p)[k]? = some w := hi
          by_cases hp : p = 0
          · have e1 : plusW p = [] := if_pos hp
            rw [e1] at hi
            cases hi
          · rw [plus_eq hp] at hi ⊢
            match k, hi with
            | 0, hi =>
              cases hi
              exact absurd hw (sg_noG p)
            | 1, _ =>
              rw [List.append_assoc]
              refine no_close hx hj ⟨?_, ?_⟩ (.inr (no_plus (sg_or p) hD.n))
              · show ("]" : Str) ≠ "+"
                decide +kernel
              · show ("]" : Str) ≠ "-"
                decide +kernel
/-- an expression whose last word is missing -/
theorem expr_cut {e : Ex} (h : Good e) : takeExpr (wordsE e).dropLast 0 = none := by
  have em : nameW ("" : Str) = false ∧ numberW ("" : Str) = false := ⟨no_name, no_num⟩
  cases e with
  | num n =>
    by_cases hn : n < 0
    · have e0 : wordsE (.num n) = [("-" : Str), numS (-n).toNat] := if_pos hn
      rw [e0]
      exact no_expr (l := [("-" : Str)]) (by show nameW ("-" : Str) = false; decide +kernel) (by show numberW ("-" : Str) = false; decide +kernel) fun _ => em.2
    · have e0 : wordsE (.num n) = [numS n.toNat] := if_neg hn
      rw [e0]
      exact no_expr (l := []) em.1 em.2 fun e => absurd e (by decide +kernel)
  | var x p =>
    by_cases hp : p = 0
    · have e0 : wordsE (.var x p) = [x] := by
        show x :: plusW p = _
        rw [show plusW p = [] from if_pos hp]
      rw [e0]
      exact no_expr (l := []) em.1 em.2 fun e => absurd e (by decide +kernel)
    · have e0 : wordsE (.var x p) = [x, if 0 < p then ("+" : Str) else "-", numS p.natAbs] := by
        show x :: plusW p = _
        rw [plus_eq hp]
      rw [e0]
      exact no_var2 (l := [if 0 < p then ("+" : Str) else "-"]) h.1 (sg_or p) em.2
  | item x j p =>
    obtain ⟨hx, hj, hp⟩ := h
    by_cases hp : p = 0
    · have e0 : wordsE (.item x j p) = x :: ("[" : Str) :: (wordsE j) ++ [("]" : Str)] := by
        show [x, ("[" : Str)] ++ wordsE j ++ [("]" : Str)] ++ plusW p = _
        rw [show plusW p = [] from if_pos hp]
        simp
      rw [e0, List.dropLast_concat]
      have := no_close (l := []) hx hj noSign_nil (.inl (by decide +kernel))
      rwa [List.append_nil] at this
    · have e0 : wordsE (.item x j p) = x :: ("[" : Str) :: (wordsE j ++ [("]" : Str), if 0 < p then ("+" : Str) else "-"]) ++ [numS p.natAbs] := by
        show [x, ("[" : Str)] ++ wordsE j ++ [("]" : Str)] ++ plusW p = _
        rw [plus_eq hp]
        simp
      rw [e0, List.dropLast_concat]
      refine no_close hx hj ⟨?_, ?_⟩ (.inr (no_plus (sg_or p) em.2))
      · show ("]" : Str) ≠ "+"
        decide +kernel
      · show ("]" : Str) ≠ "-"
        decide +kernel
/-! ### comparisons -/
def readCmp (ws : List Str) : Option Cd := wholeC (takeCmp ws 0) ws.length
theorem wordsE_ne {e : Ex} : wordsE e ≠ [] := by
  cases e with
  | num n =>
    show (if n < 0 then _ else _) ≠ []
    split <;> simp
  | var x p => exact List.cons_ne_nil _ _
  | item x j p =>
    show [x, ("[" : Str)] ++ wordsE j ++ [("]" : Str)] ++ plusW p ≠ []
    simp
theorem cmp_good {s : Str} {l r : Ex} (hs : s ∈ SIG) (gl : Good l) (gr : Good r) : readCmp (wordsE l ++ (s :: wordsE r)) = some (.cmp s l r) := by
  have h := cmp_read (pre := []) (suf := []) hs gl gr ⟨noSign_nil, by decide +kernel⟩
  rw [List.nil_append, List.append_nil, List.length_nil, Nat.zero_add] at h
  unfold readCmp
  rw [h]
  exact if_pos rfl
theorem cmp_more {s x : Str} {l r : Ex} (hs : s ∈ SIG) (gl : Good l) (gr : Good r) (hx : Sf [x]) : readCmp (wordsE l ++ (s :: wordsE r) ++ [x]) = none := by
  have h := cmp_read (pre := []) (suf := [x]) hs gl gr hx
  rw [List.nil_append, List.length_nil, Nat.zero_add] at h
  unfold readCmp
  rw [h]
  refine if_neg ?_
  rw [List.length_append (as := wordsE l ++ (s :: wordsE r))]
  show ¬ _ = _ + 1
  omega
theorem cmp_right {s : Str} {l : Ex} {ws : List Str} (hs : s ∈ SIG) (gl : Good l) (h : takeExpr ws 0 = none) : readCmp (wordsE l ++ (s :: ws)) = none := by
  have q1 := expr_read (pre := []) (suf := s :: ws) gl (sf_sig hs _).1 (sf_sig hs _).2
  have q2 := expr_at (wordsE l ++ [s]) ws
  have q3 := wordAt_pre (wordsE l) (s :: ws) 0
  rw [List.nil_append, List.length_nil, Nat.zero_add] at q1
  have l2 : (wordsE l ++ [s]).length = (wordsE l).length + 1 := by rw [List.length_append]; rfl
  have r2 : wordsE l ++ [s] ++ ws = wordsE l ++ (s :: ws) := by simp
  rw [r2, l2, h] at q2
  unfold readCmp takeCmp
  rw [q1]
  show wholeC (if wordAt _ (wordsE l).length ∈ SIG then (match takeExpr _ ((wordsE l).length + 1) with | none => none | some (r, k) => some (Cd.cmp _ l r, k)) else none) _ = none
  rw [q2]
  split <;> rfl
theorem cmp_left {ws : List Str} (h : takeExpr ws 0 = none) : readCmp ws = none := by
  unfold readCmp takeCmp
  rw [h]
  rfl
theorem cmp_cut {s : Str} {l r : Ex} (hs : s ∈ SIG) (gl : Good l) (gr : Good r) : readCmp (wordsE l ++ (s :: wordsE r)).dropLast = none := by
  rw [List.dropLast_append_of_ne_nil (List.cons_ne_nil _ _)]
  obtain ⟨x, q, e⟩ := List.exists_cons_of_ne_nil (wordsE_ne (e := r))
  have : (s :: wordsE r).dropLast = s :: (wordsE r).dropLast := by
    rw [e]
    rfl
  rw [this]
  exact cmp_right hs gl (expr_cut gr)
theorem sig_noG {s : Str} (h : s ∈ SIG) : ¬ isG s := fun g => by
  have : ∀ s ∈ SIG, ∃ c ∈ tl s, c ∉ tl DIG := by decide +kernel
  obtain ⟨c, h1, h2⟩ := this s h
  exact h2 (g.2 c h1)
theorem cmp_bad {s : Str} {l r : Ex} (hs : s ∈ SIG) (gl : Good l) (gr : Good r) {i : Nat} {w D : Str} (hi : (wordsE l ++ (s :: wordsE r))[i]? = some w) (hw : isG w) (hD : BadNum D) : readCmp ((wordsE l ++ (s :: wordsE r)).set i D) = none := by
  by_cases c : i < (wordsE l).length
  · rw [List.getElem?_append_left c] at hi
    rw [List.set_append_left _ _ c]
    exact cmp_left (expr_bad gl hi hw hD _)
  · rw [List.getElem?_append_right (by omega)] at hi
    rw [List.set_append_right _ _ (by omega)]
    generalize i - (wordsE l).length = k at hi ⊢
    match k, hi with
    | 0, hi =>
      cases hi
      exact absurd hw (sig_noG hs)
    | k + 1, hi =>
      have hi : (wordsE r)[k]? = some w := hi
      have := expr_bad gr hi hw hD []
      rw [List.append_nil] at this
      exact cmp_right hs gl this
end W23
/-! W23C: atoms, places; which words are none. -/
namespace W23
open PySem PySem.Spec PyProof.Rows L2 Wy WM W3 W4 W5 W7
open W30 (isN)
abbrev KS : List Str := ["row", "yes", "no"]
inductive At where
  | ev (k : Str) (r : Nat)
  | turn (r n : Nat)
  | fault (r : Nat) (w : Str)
  | whn (r : Nat) (s : Str) (l e : Ex)
def At.ok : At → Prop
  | .ev k r => k ∈ KS ∧ r < 10 ^ 10
  | .turn r n => r < 10 ^ 10 ∧ n < 10 ^ 10
  | .fault r w => r < 10 ^ 10 ∧ (nameW w = true ∨ w = "check")
  | .whn r s l e => r < 10 ^ 10 ∧ s ∈ SIG ∧ Good l ∧ Good e
def At.d : At → PyData
  | .ev k r => .tuple [.str k, .int (r : Int)]
  | .turn r n => .tuple [.str "turn", .int (r : Int), .int (n : Int)]
  | .fault r w => .tuple [.str "fault", .int (r : Int), .str w]
  | .whn r s l e => .tuple [.str "when", .int (r : Int), .str s, l.d, e.d]
def At.ws : At → List Str
  | .ev k r => [k, numS r]
  | .turn r n => ["turn", numS r, numS n]
  | .fault r w => ["fault", numS r, w]
  | .whn r s l e => "when" :: numS r :: ":" :: (wordsE l ++ (s :: wordsE e))
/-! ### reading an atom -/
def cmpD (k : Str) (r : Int) : Option Cd → PyData
  | some (.cmp s l e) => .tuple [.str k, .int r, .str s, l.d, e.d]
  | _ => .none
def atomO (ws : List Str) : PyData :=
  if numberW (wordAt ws 1) = false then .none
  else if wordAt ws 0 = "when" then (if wordAt ws 2 = ":" then cmpD "when" (dv (wordAt ws 1)) (readCmp (ws.drop 3)) else .none)
  else if wordAt ws 0 ∈ KS ∧ ws.length = 2 then .tuple [.str (wordAt ws 0), .int (dv (wordAt ws 1))]
  else if wordAt ws 0 = "turn" ∧ ws.length = 3 ∧ numberW (wordAt ws 2) = true then .tuple [.str (wordAt ws 0), .int (dv (wordAt ws 1)), .int (dv (wordAt ws 2))]
  else if wordAt ws 0 = "fault" ∧ ws.length = 3 ∧ (nameW (wordAt ws 2) = true ∨ wordAt ws 2 = "check") then .tuple [.str (wordAt ws 0), .int (dv (wordAt ws 1)), .str (wordAt ws 2)]
  else .none
theorem atom_no1 {ws : List Str} (h : numberW (wordAt ws 1) = false) : atomO ws = .none := if_pos h
theorem atom_len {ws : List Str} (h0 : wordAt ws 0 ≠ "when") (h : (wordAt ws 0 ∈ KS → ws.length ≠ 2) ∧ (wordAt ws 0 = "turn" → ws.length = 3 → numberW (wordAt ws 2) = false) ∧ (wordAt ws 0 = "fault" → ws.length = 3 → nameW (wordAt ws 2) = false ∧ wordAt ws 2 ≠ "check")) : atomO ws = .none := by
  by_cases c0 : numberW (wordAt ws 1) = false
  · exact atom_no1 c0
  · unfold atomO
    rw [if_neg c0, if_neg h0, if_neg (fun z => h.1 z.1 z.2), if_neg, if_neg]
    · rintro ⟨a, b, c⟩
      obtain ⟨d, e⟩ := h.2.2 a b
      rcases c with c | c
      · rw [d] at c
        cases c
      · exact e c
    · rintro ⟨a, b, c⟩
      rw [h.2.1 a b] at c
      cases c
theorem atom_when {ws : List Str} {w1 : Str} (h : readCmp ws = none) : atomO ("when" :: w1 :: ":" :: ws) = .none := by
  by_cases c0 : numberW (wordAt ("when" :: w1 :: ":" :: ws) 1) = false
  · exact atom_no1 c0
  · unfold atomO
    rw [if_neg c0, if_pos (show wordAt ("when" :: w1 :: ":" :: ws) 0 = "when" from rfl), if_pos (show wordAt ("when" :: w1 :: ":" :: ws) 2 = ":" from rfl)]
    show cmpD "when" _ (readCmp ws) = _
    rw [h]
    rfl
theorem ks_ne {k : Str} (h : k ∈ KS) : k ≠ "when" ∧ k ≠ "turn" ∧ k ≠ "fault" := by
  have : ∀ k ∈ KS, k ≠ "when" ∧ k ≠ "turn" ∧ k ≠ "fault" := by decide +kernel
  exact this k h
theorem atom_good {a : At} (h : a.ok) : atomO a.ws = a.d := by
  cases a with
  | ev k r =>
    obtain ⟨h1, h2⟩ := h
    show atomO [k, numS r] = _
    unfold atomO
    rw [show wordAt [k, numS r] 1 = numS r from rfl, show wordAt [k, numS r] 0 = k from rfl, numS_number h2, if_neg (by simp), if_neg (ks_ne h1).1, if_pos ⟨h1, rfl⟩, numS_dv]
    rfl
  | turn r n =>
    obtain ⟨h1, h2⟩ := h
    show atomO ["turn", numS r, numS n] = _
    unfold atomO
    rw [show wordAt ["turn", numS r, numS n] 1 = numS r from rfl, show wordAt ["turn", numS r, numS n] 0 = "turn" from rfl, show wordAt ["turn", numS r, numS n] 2 = numS n from rfl, numS_number h1, numS_number h2, if_neg (by simp), if_neg (by decide +kernel), if_neg (fun z => absurd z.1 (by decide +kernel)), if_pos ⟨rfl, rfl, rfl⟩, numS_dv, numS_dv]
    rfl
  | fault r w =>
    obtain ⟨h1, h2⟩ := h
    show atomO ["fault", numS r, w] = _
    unfold atomO
    rw [show wordAt ["fault", numS r, w] 1 = numS r from rfl, show wordAt ["fault", numS r, w] 0 = "fault" from rfl, show wordAt ["fault", numS r, w] 2 = w from rfl, numS_number h1, if_neg (by simp), if_neg (by decide +kernel), if_neg (fun z => absurd z.1 (by decide +kernel)), if_neg (fun z => absurd z.1 (by decide +kernel)), if_pos ⟨rfl, rfl, h2⟩, numS_dv]
    rfl
  | whn r s l e =>
    obtain ⟨h1, h2, h3, h4⟩ := h
    show atomO ("when" :: numS r :: ":" :: (wordsE l ++ (s :: wordsE e))) = _
    unfold atomO
    rw [show wordAt ("when" :: numS r :: ":" :: (wordsE l ++ (s :: wordsE e))) 1 = numS r from rfl, numS_number h1, if_neg (by simp), if_pos (show wordAt ("when" :: numS r :: ":" :: (wordsE l ++ (s :: wordsE e))) 0 = "when" from rfl), if_pos (show wordAt ("when" :: numS r :: ":" :: (wordsE l ++ (s :: wordsE e))) 2 = ":" from rfl)]
    show cmpD "when" (dv (numS r)) (readCmp (wordsE l ++ (s :: wordsE e))) = _
    rw [cmp_good h2 h3 h4, numS_dv]
    rfl
theorem at_notN (a : At) : isN a.d = false := by cases a <;> rfl
/-! ### parts between 'then's -/
abbrev TH : Str := "then"
def partsO : List Str → List (List Str)
  | [] => [[]]
  | w :: r => if w = TH then [] :: partsO r else match partsO r with
    | p :: ps => (w :: p) :: ps
    | [] => [[w]]
theorem parts_ne : ∀ ws, partsO ws ≠ []
  | [] => by simp [partsO]
  | w :: r => by
    unfold partsO
    split
    · simp
    · split <;> simp
theorem parts_app : ∀ {a : List Str}, TH ∉ a → ∀ b, partsO (a ++ TH :: b) = a :: partsO b
  | [], _, b => if_pos rfl
  | w :: r, h, b => by
    have h1 : w ≠ TH := fun z => h (by rw [z]; exact List.mem_cons_self)
    have ih := parts_app (a := r) (fun z => h (List.mem_cons_of_mem _ z)) b
    show (if w = TH then _ else match partsO (r ++ TH :: b) with | p :: ps => (w :: p) :: ps | [] => [[w]]) = _
    rw [if_neg h1, ih]
theorem parts_one : ∀ {a : List Str}, TH ∉ a → partsO a = [a]
  | [], _ => rfl
  | w :: r, h => by
    have h1 : w ≠ TH := fun z => h (by rw [z]; exact List.mem_cons_self)
    have ih := parts_one (a := r) (fun z => h (List.mem_cons_of_mem _ z))
    show (if w = TH then _ else match partsO r with | p :: ps => (w :: p) :: ps | [] => [[w]]) = _
    rw [if_neg h1, ih]
theorem parts_snoc : ∀ (a : List Str) (w : Str), partsO (a ++ [w]) = if w = TH then partsO a ++ [[]] else (partsO a).dropLast ++ [((partsO a).getLast (parts_ne a)) ++ [w]]
  | [], w => by
    show (if w = TH then [] :: [[]] else [[w]]) = _
    split <;> rfl
  | x :: r, w => by
    have ih := parts_snoc r w
    show (if x = TH then [] :: partsO (r ++ [w]) else match partsO (r ++ [w]) with | p :: ps => (x :: p) :: ps | [] => [[x]]) = _
    by_cases hx : x = TH
    · rw [if_pos hx, ih]
      have e : partsO (x :: r) = [] :: partsO r := if_pos hx
      split
      · rw [e]
        rfl
      · simp only [e]
        rw [List.dropLast_cons_of_ne_nil (parts_ne r), List.getLast_cons (parts_ne r)]
        rfl
    · obtain ⟨p, ps, ep⟩ := List.exists_cons_of_ne_nil (parts_ne r)
      have e : partsO (x :: r) = (x :: p) :: ps := by
        show (if x = TH then _ else match partsO r with | p :: ps => (x :: p) :: ps | [] => [[x]]) = _
        rw [if_neg hx, ep]
      rw [if_neg hx, ih]
      by_cases hw : w = TH
      · rw [if_pos hw, if_pos hw, e, ep]
        rfl
      · rw [if_neg hw, if_neg hw]
        simp only [e, ep]
        cases ps with
        | nil => rfl
        | cons q qs =>
          rw [List.dropLast_cons_of_ne_nil (List.cons_ne_nil _ _), List.dropLast_cons_of_ne_nil (List.cons_ne_nil _ _), List.getLast_cons (List.cons_ne_nil _ _), List.getLast_cons (List.cons_ne_nil _ _)]
          rfl
theorem parts_filter {f : Str → Bool} (hf : f TH = true) : ∀ ws : List Str, partsO (ws.filter f) = (partsO ws).map (·.filter f)
  | [] => rfl
  | w :: r => by
    have ih := parts_filter hf r
    by_cases hw : w = TH
    · subst hw
      rw [List.filter_cons_of_pos hf]
      have e1 : partsO (TH :: r.filter f) = [] :: partsO (r.filter f) := if_pos rfl
      have e2 : partsO (TH :: r) = [] :: partsO r := if_pos rfl
      rw [e1, e2, ih]
      rfl
    · obtain ⟨p, ps, ep⟩ := List.exists_cons_of_ne_nil (parts_ne r)
      have e2 : partsO (w :: r) = (w :: p) :: ps := by
        show (if w = TH then _ else match partsO r with | p :: ps => (w :: p) :: ps | [] => [[w]]) = _
        rw [if_neg hw, ep]
      rw [e2]
      rw [ep] at ih
      by_cases hfw : f w = true
      · rw [List.filter_cons_of_pos hfw]
        show (if w = TH then _ else match partsO (r.filter f) with | p :: ps => (w :: p) :: ps | [] => [[w]]) = _
        rw [if_neg hw, ih, List.map_cons, List.map_cons, List.filter_cons_of_pos hfw]
      · rw [List.filter_cons_of_neg hfw, ih, List.map_cons, List.map_cons, List.filter_cons_of_neg hfw]
/-- no place: too many parts or a wrong one -/
def plF (ws : List Str) : Prop := 3 < (partsO ws).length ∨ ∃ p ∈ partsO ws, isN (atomO p) = true
def restOk (r : List Str) : Prop := r = [] ∨ ∃ b, r = TH :: b
theorem plF_first {a r : List Str} (ha : TH ∉ a) (hr : restOk r) (h : atomO a = .none) : plF (a ++ r) := by
  refine .inr ⟨a, ?_, by rw [h]; rfl⟩
  rcases hr with rfl | ⟨b, rfl⟩
  · rw [List.append_nil, parts_one ha]
    exact List.mem_singleton.mpr rfl
  · rw [parts_app ha]
    exact List.mem_cons_self
theorem plF_behind {a b : List Str} (ha : TH ∉ a) (h : plF b) : plF (a ++ TH :: b) := by
  unfold plF
  rw [parts_app ha]
  rcases h with h | ⟨p, hp, h⟩
  · exact .inl (by rw [List.length_cons]; omega)
  · exact .inr ⟨p, List.mem_cons_of_mem _ hp, h⟩
/-! ### the words of a place -/
def plWs : List At → List Str
  | [] => []
  | [a] => a.ws
  | a :: b :: r => a.ws ++ TH :: plWs (b :: r)
theorem reserved_no {x y : Str} (h : nameW x = true) (hy : nameW y = false) : x ≠ y := name_no h hy
theorem expr_mem {e : Ex} (h : Good e) : ∀ w ∈ wordsE e, nameW w = true ∨ numberW w = true ∨ w ∈ (["+", "-", "[", "]"] : List Str) := by
  have pl : ∀ p : Int, p.natAbs < 10 ^ 10 → ∀ w ∈ plusW p, nameW w = true ∨ numberW w = true ∨ w ∈ (["+", "-", "[", "]"] : List Str) := fun p hp w hw => by
    unfold plusW at hw
    split at hw
    · cases hw
    · simp only [List.mem_cons, List.not_mem_nil, or_false] at hw
      rcases hw with rfl | rfl
      · right; right
        split <;> decide +kernel
      · exact .inr (.inl (numS_number hp))
  have pn : ∀ n : Int, n.natAbs < 10 ^ 10 → ∀ w ∈ wordsE (.num n), nameW w = true ∨ numberW w = true ∨ w ∈ (["+", "-", "[", "]"] : List Str) := fun n hn w hw => by
    have hw : w ∈ (if n < 0 then [("-" : Str), numS (-n).toNat] else [numS n.toNat]) := hw
    split at hw
    · simp only [List.mem_cons, List.not_mem_nil, or_false] at hw
      rcases hw with rfl | rfl
      · right; right; decide +kernel
      · exact .inr (.inl (numS_number (by omega)))
    · rw [List.mem_singleton.mp hw]
      exact .inr (.inl (numS_number (by omega)))
  have pv : ∀ (x : Str) (p : Int), nameW x = true → p.natAbs < 10 ^ 10 → ∀ w ∈ wordsE (.var x p), nameW w = true ∨ numberW w = true ∨ w ∈ (["+", "-", "[", "]"] : List Str) := fun x p hx hp w hw => by
    have hw : w ∈ x :: plusW p := hw
    rcases List.mem_cons.mp hw with rfl | hw
    · exact .inl hx
    · exact pl p hp w hw
  cases e with
  | num n => exact pn n h
  | var x p => exact pv x p h.1 h.2
  | item x j p =>
    obtain ⟨hx, hj, hp⟩ := h
    intro w hw
    have hw : w ∈ [x, ("[" : Str)] ++ wordsE j ++ [("]" : Str)] ++ plusW p := hw
    simp only [List.mem_append, List.mem_cons, List.not_mem_nil, or_false] at hw
    rcases hw with (((rfl | rfl) | hw) | rfl) | hw
    · exact .inl hx
    · right; right; decide +kernel
    · cases j with
      | num n => exact pn n hj w hw
      | var y q => exact pv y q hj.1 hj.2 w hw
      | item y k q => exact hj.elim
    · right; right; decide +kernel
    · exact pl p hp w hw
/-- the words of an atom: one of these sorts -/
theorem at_mem {a : At} (h : a.ok) : ∀ w ∈ a.ws, nameW w = true ∨ numberW w = true ∨ w ∈ (["+", "-", "[", "]", ":", "row", "yes", "no", "turn", "fault", "when", "check"] : List Str) ∨ w ∈ SIG := by
  have ex : ∀ e, Good e → ∀ w ∈ wordsE e, nameW w = true ∨ numberW w = true ∨ w ∈ (["+", "-", "[", "]", ":", "row", "yes", "no", "turn", "fault", "when", "check"] : List Str) ∨ w ∈ SIG := fun e he w hw => by
    rcases expr_mem he w hw with h | h | h
    · exact .inl h
    · exact .inr (.inl h)
    · have : ∀ w ∈ (["+", "-", "[", "]"] : List Str), w ∈ (["+", "-", "[", "]", ":", "row", "yes", "no", "turn", "fault", "when", "check"] : List Str) := by decide +kernel
      exact .inr (.inr (.inl (this w h)))
  intro w hw
  cases a with
  | ev k r =>
    have hw : w ∈ [k, numS r] := hw
    simp only [List.mem_cons, List.not_mem_nil, or_false] at hw
    rcases hw with rfl | rfl
    · have : ∀ w ∈ KS, w ∈ (["+", "-", "[", "]", ":", "row", "yes", "no", "turn", "fault", "when", "check"] : List Str) := by decide +kernel
      exact .inr (.inr (.inl (this w h.1)))
    · exact .inr (.inl (numS_number h.2))
  | turn r n =>
    have hw : w ∈ [("turn" : Str), numS r, numS n] := hw
    simp only [List.mem_cons, List.not_mem_nil, or_false] at hw
    rcases hw with rfl | rfl | rfl
    · exact .inr (.inr (.inl (by decide +kernel)))
    · exact .inr (.inl (numS_number h.1))
    · exact .inr (.inl (numS_number h.2))
  | fault r x =>
    have hw : w ∈ [("fault" : Str), numS r, x] := hw
    simp only [List.mem_cons, List.not_mem_nil, or_false] at hw
    rcases hw with rfl | rfl | rfl
    · exact .inr (.inr (.inl (by decide +kernel)))
    · exact .inr (.inl (numS_number h.1))
    · rcases h.2 with h | rfl
      · exact .inl h
      · exact .inr (.inr (.inl (by decide +kernel)))
  | whn r s l e =>
    obtain ⟨h1, h2, h3, h4⟩ := h
    have hw : w ∈ ("when" : Str) :: numS r :: (":" : Str) :: (wordsE l ++ (s :: wordsE e)) := hw
    simp only [List.mem_cons, List.mem_append] at hw
    rcases hw with rfl | rfl | rfl | hw | rfl | hw
    · exact .inr (.inr (.inl (by decide +kernel)))
    · exact .inr (.inl (numS_number h1))
    · exact .inr (.inr (.inl (by decide +kernel)))
    · exact ex l h3 w hw
    · exact .inr (.inr (.inr h2))
    · exact ex e h4 w hw
theorem at_th {a : At} (h : a.ok) : TH ∉ a.ws := fun hm => by
  have h1 : nameW TH = false := by decide +kernel
  have h2 : numberW TH = false := by decide +kernel
  rcases at_mem h TH hm with h | h | h | h
  · rw [h1] at h; cases h
  · rw [h2] at h; cases h
  · revert h; decide +kernel
  · revert h; decide +kernel
theorem parts_place : ∀ {ps : List At}, ps ≠ [] → (∀ a ∈ ps, a.ok) → partsO (plWs ps) = ps.map At.ws
  | [], h, _ => absurd rfl h
  | [a], _, h => parts_one (at_th (h a List.mem_cons_self))
  | a :: b :: r, _, h => by
    have ih := parts_place (ps := b :: r) (List.cons_ne_nil _ _) fun x hx => h x (List.mem_cons_of_mem _ hx)
    show partsO (a.ws ++ TH :: plWs (b :: r)) = _
    rw [parts_app (at_th (h a List.mem_cons_self)), ih]
    rfl
end W23
/-! W23D: words near a place. -/
namespace W23
open PySem PySem.Spec PyProof.Rows L2 Wy WM W3 W4 W5 W7
open W30 (isN)
theorem no_part : atomO [] = .none := atom_no1 no_num
theorem plF_nil : plF [] := plF_first (a := []) (r := []) (by simp) (.inl rfl) no_part
theorem plWs_ne {a : At} {r : List At} : plWs (a :: r) ≠ [] := by
  have : a.ws ≠ [] := by cases a <;> simp [At.ws]
  cases r with
  | nil => exact this
  | cons b r =>
    show a.ws ++ TH :: plWs (b :: r) ≠ []
    simp
theorem turn_no : ("turn" : Str) ≠ "when" ∧ ("turn" : Str) ∉ KS ∧ ("turn" : Str) ≠ "fault" := by decide +kernel
theorem fault_no : ("fault" : Str) ≠ "when" ∧ ("fault" : Str) ∉ KS ∧ ("fault" : Str) ≠ "turn" := by decide +kernel
/-! ### the last word left out -/
theorem at_cut {a : At} (h : a.ok) : atomO a.ws.dropLast = .none := by
  cases a with
  | ev k r => exact atom_no1 (ws := [k]) no_num
  | turn r n => exact atom_len (ws := [("turn" : Str), numS r]) turn_no.1 ⟨fun z => absurd z turn_no.2.1, fun _ z => absurd z (show ¬ 2 = 3 by decide), fun z => absurd z turn_no.2.2⟩
  | fault r w => exact atom_len (ws := [("fault" : Str), numS r]) fault_no.1 ⟨fun z => absurd z fault_no.2.1, fun z => absurd z fault_no.2.2, fun _ z => absurd z (show ¬ 2 = 3 by decide)⟩
  | whn r s l e =>
    obtain ⟨h1, h2, h3, h4⟩ := h
    have hne : wordsE l ++ (s :: wordsE e) ≠ [] := by simp
    have e1 : (At.whn r s l e).ws.dropLast = ("when" : Str) :: numS r :: (":" : Str) :: (wordsE l ++ (s :: wordsE e)).dropLast := by
      show (("when" : Str) :: numS r :: (":" : Str) :: (wordsE l ++ (s :: wordsE e))).dropLast = _
      rw [List.dropLast_cons_of_ne_nil (by simp), List.dropLast_cons_of_ne_nil (by simp), List.dropLast_cons_of_ne_nil hne]
    rw [e1]
    exact atom_when (cmp_cut h2 h3 h4)
theorem th_drop {a : At} (h : a.ok) : TH ∉ a.ws.dropLast := fun z => at_th h (List.dropLast_subset _ z)
theorem near_cut : ∀ {ps : List At}, ps ≠ [] → (∀ a ∈ ps, a.ok) → plF (plWs ps).dropLast
  | [], h, _ => absurd rfl h
  | [a], _, h => by
    have ha := h a List.mem_cons_self
    have := plF_first (a := a.ws.dropLast) (r := []) (th_drop ha) (.inl rfl) (at_cut ha)
    rwa [List.append_nil] at this
  | a :: b :: r, _, h => by
    have ih := near_cut (ps := b :: r) (List.cons_ne_nil _ _) fun x hx => h x (List.mem_cons_of_mem _ hx)
    show plF (a.ws ++ TH :: plWs (b :: r)).dropLast
    rw [List.dropLast_append_of_ne_nil (List.cons_ne_nil _ _), List.dropLast_cons_of_ne_nil plWs_ne]
    exact plF_behind (at_th (h a List.mem_cons_self)) ih
/-! ### a word too many -/
abbrev MORE : List Str := ["7", "x", "]", ":", "row"]
theorem at_more {a : At} (h : a.ok) {x : Str} (hx : x ∈ MORE) : atomO (a.ws ++ [x]) = .none := by
  cases a with
  | ev k r =>
    have hk := ks_ne h.1
    exact atom_len (ws := [k, numS r, x]) hk.1 ⟨fun _ z => absurd z (show ¬ 3 = 2 by decide), fun z => absurd z hk.2.1, fun z => absurd z hk.2.2⟩
  | turn r n => exact atom_len (ws := [("turn" : Str), numS r, numS n, x]) turn_no.1 ⟨fun z => absurd z turn_no.2.1, fun _ z => absurd z (show ¬ 4 = 3 by decide), fun z => absurd z turn_no.2.2⟩
  | fault r w => exact atom_len (ws := [("fault" : Str), numS r, w, x]) fault_no.1 ⟨fun z => absurd z fault_no.2.1, fun z => absurd z fault_no.2.2, fun _ z => absurd z (show ¬ 4 = 3 by decide)⟩
  | whn r s l e =>
    obtain ⟨h1, h2, h3, h4⟩ := h
    have sf : ∀ x ∈ MORE, x ≠ "+" ∧ x ≠ "-" ∧ x ≠ "[" := by decide +kernel
    obtain ⟨s1, s2, s3⟩ := sf x hx
    exact atom_when (ws := wordsE l ++ (s :: wordsE e) ++ [x]) (cmp_more h2 h3 h4 ⟨⟨s1, s2⟩, s3⟩)
theorem near_more {x : Str} (hx : x ∈ MORE ∨ x = TH) : ∀ {ps : List At}, ps ≠ [] → (∀ a ∈ ps, a.ok) → plF (plWs ps ++ [x])
  | [], h, _ => absurd rfl h
  | [a], _, h => by
    have ha := h a List.mem_cons_self
    rcases hx with hx | rfl
    · have := plF_first (a := a.ws ++ [x]) (r := []) (fun z => by
        rcases List.mem_append.mp z with z | z
        · exact at_th ha z
        · have nt : TH ∉ MORE := by decide +kernel
          rw [List.mem_singleton.mp z] at nt
          exact nt hx) (.inl rfl) (at_more ha hx)
      rwa [List.append_nil] at this
    · exact plF_behind (b := []) (at_th ha) plF_nil
  | a :: b :: r, _, h => by
    have ih := near_more hx (ps := b :: r) (List.cons_ne_nil _ _) fun x hx => h x (List.mem_cons_of_mem _ hx)
    show plF ((a.ws ++ TH :: plWs (b :: r)) ++ [x])
    rw [List.append_assoc]
    exact plF_behind (at_th (h a List.mem_cons_self)) ih
theorem near_ahead (ws : List Str) : plF (TH :: ws) := plF_first (a := []) (r := TH :: ws) (by simp) (.inr ⟨ws, rfl⟩) no_part
/-! ### a wrong number -/
theorem num_set {a : At} (h : a.ok) {i : Nat} {w D : Str} (hi : a.ws[i]? = some w) (hw : isG w) (hD : BadNum D) : atomO (a.ws.set i D) = .none ∧ TH ∉ a.ws.set i D := by
  have kw : ∀ k ∈ (["row", "yes", "no", "turn", "fault", "when", ":", "check"] : List Str), ∃ c ∈ tl k, c ∉ tl DIG := by decide +kernel
  have kn : ∀ k ∈ (["row", "yes", "no", "turn", "fault", "when", ":", "check"] : List Str), ¬ isG k := fun k hk => by
    obtain ⟨c, h1, h2⟩ := kw k hk
    exact noG_of h1 h2
  have ksub : ∀ k ∈ KS, k ∈ (["row", "yes", "no", "turn", "fault", "when", ":", "check"] : List Str) := by decide +kernel
  have hth : TH ∉ a.ws.set i D := fun z => by
    rcases List.mem_or_eq_of_mem_set z with z | z
    · exact at_th h z
    · have : isG TH := by
        rw [z]
        exact hD.g
      exact noG_of (x := TH) (c := 116) (by decide +kernel) (by decide +kernel) this
  refine ⟨?_, hth⟩
  cases a with
  | ev k r =>
    match i, hi with
    | 0, hi =>
      have hi : some k = some w := hi
      injection hi with hi
      subst hi
      exact absurd hw (kn _ (ksub _ h.1))
    | 1, _ => exact atom_no1 (ws := [k, D]) hD.n
  | turn r n =>
    match i, hi with
    | 0, hi =>
      cases hi
      exact absurd hw (kn _ (by decide +kernel))
    | 1, _ => exact atom_no1 (ws := [("turn" : Str), D, numS n]) hD.n
    | 2, _ => exact atom_len (ws := [("turn" : Str), numS r, D]) turn_no.1 ⟨fun z => absurd z turn_no.2.1, fun _ _ => hD.n, fun z => absurd z turn_no.2.2⟩
  | fault r x =>
    match i, hi with
    | 0, hi =>
      cases hi
      exact absurd hw (kn _ (by decide +kernel))
    | 1, _ => exact atom_no1 (ws := [("fault" : Str), D, x]) hD.n
    | 2, hi =>
      cases hi
      rcases h.2 with h | rfl
      · exact absurd hw (name_noG h)
      · exact absurd hw (kn _ (by decide +kernel))
  | whn r s l e =>
    obtain ⟨h1, h2, h3, h4⟩ := h
    match i, hi with
    | 0, hi =>
      cases hi
      exact absurd hw (kn _ (by decide +kernel))
    | 1, _ => exact atom_no1 (ws := ("when" : Str) :: D :: (":" : Str) :: (wordsE l ++ (s :: wordsE e))) hD.n
    | 2, hi =>
      cases hi
      exact absurd hw (kn _ (by decide +kernel))
    | i + 3, hi =>
      have hi : (wordsE l ++ (s :: wordsE e))[i]? = some w := hi
      exact atom_when (cmp_bad h2 h3 h4 hi hw hD)
theorem plF_set_first {a : At} (h : a.ok) {i : Nat} {w D : Str} (hi : a.ws[i]? = some w) (hw : isG w) (hD : BadNum D) {r : List Str} (hr : restOk r) : plF ((a.ws ++ r).set i D) := by
  have hl := (List.getElem?_eq_some_iff.mp hi).1
  rw [List.set_append_left _ _ hl]
  obtain ⟨h1, h2⟩ := num_set h hi hw hD
  exact plF_first h2 hr h1
theorem th_noG : ¬ isG TH := noG_of (c := 116) (by decide +kernel) (by decide +kernel)
theorem near_num {w D : Str} (hw : isG w) (hD : BadNum D) : ∀ {ps : List At} {i : Nat}, (∀ a ∈ ps, a.ok) → (plWs ps)[i]? = some w → plF ((plWs ps).set i D)
  | [], _, _, h => by cases h
  | [a], i, h, hi => by
    have := plF_set_first (h a List.mem_cons_self) hi hw hD (r := []) (.inl rfl)
    rwa [List.append_nil] at this
  | a :: b :: r, i, h, hi => by
    have hi : (a.ws ++ TH :: plWs (b :: r))[i]? = some w := hi
    show plF ((a.ws ++ TH :: plWs (b :: r)).set i D)
    by_cases c : i < a.ws.length
    · rw [List.getElem?_append_left c] at hi
      exact plF_set_first (h a List.mem_cons_self) hi hw hD (.inr ⟨_, rfl⟩)
    · rw [List.getElem?_append_right (by omega)] at hi
      rw [List.set_append_right _ _ (by omega)]
      generalize i - a.ws.length = k at hi ⊢
      match k, hi with
      | 0, hi =>
        cases hi
        exact absurd hw th_noG
      | k + 1, hi => exact plF_behind (at_th (h a List.mem_cons_self)) (near_num hw hD (ps := b :: r) (i := k) (fun x hx => h x (List.mem_cons_of_mem _ hx)) hi)
/-! ### the first atom -/
structure Fst (ws : List Str) (a : At) (w0 w1 : Str) (t r : List Str) : Prop where
  ok : a.ok
  e : a.ws = w0 :: w1 :: t
  all : ws = w0 :: w1 :: (t ++ r)
  rest : restOk r
  num : numberW w1 = true
theorem first_of : ∀ {ps : List At}, ps ≠ [] → (∀ a ∈ ps, a.ok) → ∃ a w0 w1 t r, Fst (plWs ps) a w0 w1 t r ∧ a ∈ ps
  | [], h, _ => absurd rfl h
  | a :: q, _, h => by
    have ha := h a List.mem_cons_self
    obtain ⟨w0, w1, t, e, hn⟩ : ∃ w0 w1 t, a.ws = w0 :: w1 :: t ∧ numberW w1 = true := by
      cases a with
      | ev k r => exact ⟨k, numS r, [], rfl, numS_number ha.2⟩
      | turn r n => exact ⟨_, numS r, _, rfl, numS_number ha.1⟩
      | fault r w => exact ⟨_, numS r, _, rfl, numS_number ha.1⟩
      | whn r s l x => exact ⟨_, numS r, _, rfl, numS_number ha.1⟩
    cases q with
    | nil => exact ⟨a, w0, w1, t, [], ⟨ha, e, by rw [List.append_nil]; exact e, .inl rfl, hn⟩, List.mem_cons_self⟩
    | cons b q =>
      refine ⟨a, w0, w1, t, TH :: plWs (b :: q), ⟨ha, e, ?_, .inr ⟨_, rfl⟩, hn⟩, List.mem_cons_self⟩
      show a.ws ++ TH :: plWs (b :: q) = _
      rw [e]
      rfl
theorem Fst.no {ws : List Str} {a : At} {w0 w1 : Str} {t r : List Str} (f : Fst ws a w0 w1 t r) : w0 ≠ TH ∧ w1 ≠ TH ∧ TH ∉ t := by
  have h := at_th f.ok
  rw [f.e] at h
  simp only [List.mem_cons, not_or] at h
  exact ⟨fun z => h.1 z.symm, fun z => h.2.1 z.symm, h.2.2⟩
abbrev SEC : List Str := ["x", "-", "then", ":", "row", "12345678901"]
theorem near_second {ws : List Str} {a : At} {w0 w1 : Str} {t r : List Str} (f : Fst ws a w0 w1 t r) {x : Str} (hx : x ∈ SEC) : plF (w0 :: x :: (t ++ r)) := by
  obtain ⟨n0, n1, nt⟩ := f.no
  by_cases c : x = TH
  · subst c
    exact plF_first (a := [w0]) (r := TH :: (t ++ r)) (by simpa using Ne.symm n0) (.inr ⟨_, rfl⟩) (atom_no1 (ws := [w0]) no_num)
  · have nn : ∀ x ∈ SEC, numberW x = false := by decide +kernel
    exact plF_first (a := w0 :: x :: t) (r := r) (by
      simp only [List.mem_cons, not_or]
      exact ⟨Ne.symm n0, Ne.symm c, nt⟩) f.rest (atom_no1 (ws := w0 :: x :: t) (nn x hx))
abbrev FIR : List Str := ["rows", "skip", "check", "if", "then", "5", "whe"]
theorem near_first {ws : List Str} {a : At} {w0 w1 : Str} {t r : List Str} (f : Fst ws a w0 w1 t r) {x : Str} (hx : x ∈ FIR) : plF (x :: w1 :: (t ++ r)) := by
  obtain ⟨n0, n1, nt⟩ := f.no
  by_cases c : x = TH
  · subst c
    exact near_ahead _
  · have nn : ∀ x ∈ FIR, x ≠ "when" ∧ x ∉ KS ∧ x ≠ "turn" ∧ x ≠ "fault" := by decide +kernel
    obtain ⟨h1, h2, h3, h4⟩ := nn x hx
    exact plF_first (a := x :: w1 :: t) (r := r) (by
      simp only [List.mem_cons, not_or]
      exact ⟨Ne.symm c, Ne.symm n1, nt⟩) f.rest (atom_len (ws := x :: w1 :: t) h1 ⟨fun z => absurd z h2, fun z => absurd z h3, fun z => absurd z h4⟩)
/-! ### colons -/
abbrev CO : Str := ":"
def noCo (w : Str) : Bool := !decide (w = CO)
theorem expr_first {e : Ex} (h : Good e) : ∃ w q, wordsE e = w :: q ∧ w ≠ CO := by
  obtain ⟨w, q, e2⟩ := List.exists_cons_of_ne_nil (wordsE_ne (e := e))
  refine ⟨w, q, e2, fun z => ?_⟩
  have h1 : nameW CO = false := by decide +kernel
  have h2 : numberW CO = false := by decide +kernel
  rcases expr_mem h w (by rw [e2]; exact List.mem_cons_self) with g | g | g
  · rw [z, h1] at g; cases g
  · rw [z, h2] at g; cases g
  · rw [z] at g
    revert g
    decide +kernel
theorem whn_filter {r : Nat} {s : Str} {l e : Ex} (h : (At.whn r s l e).ok) : atomO ((At.whn r s l e).ws.filter noCo) = .none := by
  obtain ⟨h1, h2, h3, h4⟩ := h
  obtain ⟨w, q, e2, hw⟩ := expr_first h3
  have en : noCo (numS r) = true := by
    have : numS r ≠ CO := number_ne (numS_number h1) (by decide +kernel)
    unfold noCo
    rw [decide_eq_false this]
    rfl
  have ew : noCo w = true := by
    unfold noCo
    rw [decide_eq_false hw]
    rfl
  have e3 : (At.whn r s l e).ws.filter noCo = ("when" : Str) :: numS r :: w :: (q ++ (s :: wordsE e)).filter noCo := by
    show (("when" : Str) :: numS r :: CO :: (wordsE l ++ (s :: wordsE e))).filter noCo = _
    rw [e2, List.filter_cons_of_pos (by decide +kernel), List.filter_cons_of_pos en, List.filter_cons_of_neg (by decide +kernel), List.cons_append, List.filter_cons_of_pos ew]
  rw [e3]
  generalize (q ++ (s :: wordsE e)).filter noCo = z
  by_cases c0 : numberW (wordAt (("when" : Str) :: numS r :: w :: z) 1) = false
  · exact atom_no1 c0
  · unfold atomO
    rw [if_neg c0, if_pos (show wordAt (("when" : Str) :: numS r :: w :: z) 0 = "when" from rfl), if_neg (show ¬ wordAt (("when" : Str) :: numS r :: w :: z) 2 = ":" from hw)]
theorem at_colon {a : At} (h : a.ok) (hc : CO ∈ a.ws) : ∃ r s l e, a = .whn r s l e := by
  have n1 : nameW CO = false := by decide +kernel
  have n2 : numberW CO = false := by decide +kernel
  cases a with
  | ev k r =>
    have hc : CO ∈ [k, numS r] := hc
    simp only [List.mem_cons, List.not_mem_nil, or_false] at hc
    rcases hc with z | z
    · have := h.1
      rw [← z] at this
      exact absurd this (by decide +kernel)
    · have := numS_number h.2
      rw [← z, n2] at this
      cases this
  | turn r n =>
    have hc : CO ∈ [("turn" : Str), numS r, numS n] := hc
    simp only [List.mem_cons, List.not_mem_nil, or_false] at hc
    rcases hc with z | z | z
    · exact absurd z (by decide +kernel)
    · have := numS_number h.1
      rw [← z, n2] at this
      cases this
    · have := numS_number h.2
      rw [← z, n2] at this
      cases this
  | fault r w =>
    have hc : CO ∈ [("fault" : Str), numS r, w] := hc
    simp only [List.mem_cons, List.not_mem_nil, or_false] at hc
    rcases hc with z | z | z
    · exact absurd z (by decide +kernel)
    · have := numS_number h.1
      rw [← z, n2] at this
      cases this
    · rcases h.2 with g | g
      · rw [← z, n1] at g
        cases g
      · rw [← z] at g
        exact absurd g (by decide +kernel)
  | whn r s l e => exact ⟨r, s, l, e, rfl⟩
theorem co_mem : ∀ {ps : List At}, CO ∈ plWs ps → ∃ a ∈ ps, CO ∈ a.ws
  | [], h => by cases h
  | [a], h => ⟨a, List.mem_cons_self, h⟩
  | a :: b :: r, h => by
    have h : CO ∈ a.ws ++ TH :: plWs (b :: r) := h
    rcases List.mem_append.mp h with h | h
    · exact ⟨a, List.mem_cons_self, h⟩
    · rcases List.mem_cons.mp h with h | h
      · exact absurd h (by decide +kernel)
      · obtain ⟨x, hx, h⟩ := co_mem h
        exact ⟨x, List.mem_cons_of_mem _ hx, h⟩
theorem near_colon {ps : List At} (hne : ps ≠ []) (h : ∀ a ∈ ps, a.ok) (hc : CO ∈ plWs ps) : plF ((plWs ps).filter noCo) := by
  obtain ⟨a, ha, hca⟩ := co_mem hc
  obtain ⟨r, s, l, e, rfl⟩ := at_colon (h a ha) hca
  refine .inr ⟨(At.whn r s l e).ws.filter noCo, ?_, by rw [whn_filter (h _ ha)]; rfl⟩
  rw [parts_filter (by decide +kernel), parts_place hne h, List.map_map]
  exact List.mem_map.mpr ⟨_, ha, rfl⟩
theorem near_colon2 {ps : List At} {a : At} {w0 w1 : Str} {t r : List Str} (f : Fst (plWs ps) a w0 w1 t r) (hc : CO ∉ plWs ps) : plF (w0 :: w1 :: CO :: (t ++ r)) := by
  obtain ⟨n0, n1, nt⟩ := f.no
  refine plF_first (a := w0 :: w1 :: CO :: t) (r := r) (by
    simp only [List.mem_cons, not_or]
    exact ⟨Ne.symm n0, Ne.symm n1, by decide +kernel, nt⟩) f.rest ?_
  have e := f.e
  have ho := f.ok
  have hca : CO ∉ a.ws := fun z => hc (by
    rw [f.all]
    rw [e] at z
    simp only [List.mem_cons, List.mem_append] at z ⊢
    rcases z with z | z | z
    · exact .inl z
    · exact .inr (.inl z)
    · exact .inr (.inr (.inl z)))
  cases a with
  | ev k r =>
    cases e
    have hk := ks_ne ho.1
    exact atom_len (ws := [w0, numS r, CO]) hk.1 ⟨fun _ z => absurd z (show ¬ 3 = 2 by decide), fun z => absurd z hk.2.1, fun z => absurd z hk.2.2⟩
  | turn r n =>
    cases e
    exact atom_len (ws := [("turn" : Str), numS r, CO, numS n]) turn_no.1 ⟨fun z => absurd z turn_no.2.1, fun _ z => absurd z (show ¬ 4 = 3 by decide), fun z => absurd z turn_no.2.2⟩
  | fault r w =>
    cases e
    exact atom_len (ws := [("fault" : Str), numS r, CO, w]) fault_no.1 ⟨fun z => absurd z fault_no.2.1, fun z => absurd z fault_no.2.2, fun _ z => absurd z (show ¬ 4 = 3 by decide)⟩
  | whn r s l e2 => exact absurd (show CO ∈ ("when" : Str) :: numS r :: CO :: (wordsE l ++ (s :: wordsE e2)) by simp) hca
/-! ### finite lists -/
abbrev FLT : List Str := ["row", "then", "let", "abcdefghijklm", "7", "("]
theorem near_fault : ∀ x ∈ FLT, (partsO ["fault", "5", x]).any (fun p => isN (atomO p)) = true := by decide +kernel
theorem plF_any {ws : List Str} (h : (partsO ws).any (fun p => isN (atomO p)) = true) : plF ws := by
  obtain ⟨p, hp, h⟩ := List.any_eq_true.mp h
  exact .inr ⟨p, hp, h⟩
def TESTS : List (List Str) := ([["if", "<", "3"], ["abcdefghijklm", "<", "3"], ["xs", "[", "row", "]", "<", "3"], ["a", "<", "then"]] : List (List Str)) ++
  ([["a", "<", "abcdefghijklm", "+", "1"], ["5", "+", "3", "<", "a"], ["a", "+", "b", "<", "3"]] : List (List Str)) ++
  ([["a", "-", "<", "3"], ["a", "<", "2", "+", "xs", "[", "1", "]"], ["a", "<"]] : List (List Str)) ++
  ([["xs", "[", "ys", "[", "1", "]", "]", "<", "2"], ["not", "a", "<", "2"], ["a", "=", "3"]] : List (List Str)) ++
  ([["a", "<", "2", "and", "b", "<", "3"], ["a", "<", "2", "or", "b", "<", "3"], ["a", "=", "<", "3"]] : List (List Str)) ++
  ([["a", "+", "-", "3", "<", "4"], ["xs", "[", "(", "1", ")", "]", "<", "2"], ["-", "a", "<", "2"]] : List (List Str)) ++
  ([["a", "[", "1", "<", "2"], ["a", "<", "-", "-", "2"], ["xs", "[", "]", "<", "3"]] : List (List Str)) ++
  ([["(", "a", "<", "2", ")"], ["a", "<", "3", "<", "4"]] : List (List Str))
def whenW (d : Nat) (t : List Str) : List Str := "when" :: numS d :: ":" :: t
theorem tests_bad : ∀ t ∈ TESTS, ∀ d, d < 9 → isN (atomO ((whenW d t).takeWhile fun w => !decide (w = TH))) = true := by decide +kernel
theorem takeWhile_rest (ws : List Str) : ∃ r, restOk r ∧ ws = (ws.takeWhile fun w => !decide (w = TH)) ++ r := by
  induction ws with
  | nil => exact ⟨[], .inl rfl, rfl⟩
  | cons w r ih =>
    by_cases h : w = TH
    · refine ⟨w :: r, .inr ⟨r, by rw [h]⟩, ?_⟩
      rw [List.takeWhile_cons_of_neg (by simp [h])]
      rfl
    · obtain ⟨q, hq, e⟩ := ih
      refine ⟨q, hq, ?_⟩
      rw [List.takeWhile_cons_of_pos (by simp [h]), List.cons_append, ← e]
theorem rest_app {r b : List Str} (h : restOk r) (hb : restOk b) : restOk (r ++ b) := by
  rcases h with rfl | ⟨c, rfl⟩
  · exact hb
  · exact .inr ⟨c ++ b, rfl⟩
theorem isN_none {d : PyData} (h : isN d = true) : d = .none := by
  cases d <;> first | rfl | cases h
theorem twm {α : Type} {p : α → Bool} : ∀ {l : List α} {d : α}, d ∈ l.takeWhile p → p d = true
  | [], _, h => by cases h
  | c :: r, d, h => by
    rw [List.takeWhile_cons] at h
    split at h
    · rename_i h1
      rcases List.mem_cons.mp h with e | h
      · rw [e]
        exact h1
      · exact twm h
    · cases h
theorem near_when {t : List Str} (ht : t ∈ TESTS) {d : Nat} (hd : d < 9) {b : List Str} (hb : restOk b) : plF (whenW d t ++ b) := by
  obtain ⟨r, hr, e⟩ := takeWhile_rest (whenW d t)
  have := plF_first (a := (whenW d t).takeWhile fun w => !decide (w = TH)) (r := r ++ b) (fun z => by
    have := twm z
    simp at this) (rest_app hr hb) (isN_none (tests_bad t ht d hd))
  rw [← List.append_assoc, ← e] at this
  exact this
abbrev MANY : List Str := ["then", "row", "3", "then", "row", "3", "then", "row", "3"]
theorem near_many {ps : List At} (hne : ps ≠ []) (h : ∀ a ∈ ps, a.ok) : plF (plWs ps ++ MANY) := by
  have key : ∀ {ps : List At}, ps ≠ [] → (∀ a ∈ ps, a.ok) → 3 < (partsO (plWs ps ++ MANY)).length := by
    intro ps
    induction ps with
    | nil => intro h; exact absurd rfl h
    | cons a q ih =>
      intro _ h
      have ha := h a List.mem_cons_self
      cases q with
      | nil =>
        show 3 < (partsO (a.ws ++ TH :: (["row", "3", "then", "row", "3", "then", "row", "3"] : List Str))).length
        rw [parts_app (at_th ha)]
        have : (partsO ["row", "3", "then", "row", "3", "then", "row", "3"]).length = 3 := by decide +kernel
        rw [List.length_cons, this]
        decide
      | cons b q =>
        show 3 < (partsO ((a.ws ++ TH :: plWs (b :: q)) ++ MANY)).length
        have ih := ih (List.cons_ne_nil _ _) fun x hx => h x (List.mem_cons_of_mem _ hx)
        rw [List.append_assoc]
        show 3 < (partsO (a.ws ++ TH :: (plWs (b :: q) ++ MANY))).length
        rw [parts_app (at_th ha), List.length_cons]
        omega
  exact .inl (key hne h)
theorem near_turn1 : ∀ t ∈ ([["x"], ["2", "3"], ["-", "2"]] : List (List Str)), (partsO ("turn" :: "9" :: t)).any (fun p => isN (atomO p)) = true := by decide +kernel
theorem near_turn2 (ws : List Str) : plF ("turn" :: "9" :: "then" :: ws) := plF_first (a := [("turn" : Str), "9"]) (r := TH :: ws) (by decide +kernel) (.inr ⟨ws, rfl⟩) (isN_none (by decide +kernel))
end W23
/-! W23E: the sorts of a place's words; the text of a place. -/
namespace W23
open PySem PySem.Spec PyProof.Rows L2 Wy WM W3 W4 W5 W7 W9
/-! ### sorts of words -/
def wdB (w : Str) : Bool := (!decide (tl w = []) && (tl w).all fun c => decide (c ∈ tl LET)) || ((!decide (tl w = []) && (tl w).all fun c => decide (c ∈ tl DIG)) || ((tl SHO).any (fun c => decide (tl w = [c])) || EQS.any fun c => decide (tl w = [c, 61])))
theorem wdB_ok {w : Str} (h : wdB w = true) : Wd w := by
  unfold wdB at h
  rw [Bool.or_eq_true, Bool.or_eq_true, Bool.or_eq_true, Bool.and_eq_true, Bool.and_eq_true, List.all_eq_true, List.all_eq_true, List.any_eq_true, List.any_eq_true] at h
  rcases h with ⟨h1, h2⟩ | ⟨h1, h2⟩ | ⟨c, h1, h2⟩ | ⟨c, h1, h2⟩
  · exact .inl ⟨by simpa using h1, fun c hc => of_decide_eq_true (h2 c hc)⟩
  · exact .inr (.inl ⟨by simpa using h1, fun c hc => of_decide_eq_true (h2 c hc)⟩)
  · exact .inr (.inr (.inl ⟨c, h1, of_decide_eq_true h2⟩))
  · exact .inr (.inr (.inr ⟨c, h1, of_decide_eq_true h2⟩))
theorem name_isL {x : Str} (h : nameW x = true) : isL x := ⟨ne_of_len (name_parts h).1, (name_parts h).2.2.2⟩
theorem num_isG {x : Str} (h : numberW x = true) : isG x := ⟨ne_of_len (number_parts h).1, (number_parts h).2.2⟩
/-- a word that is no sign like < -/
def plB (w : Str) : Bool := (match (tl w).getLast? with
  | some a => !decide (a ∈ EQS)
  | none => true) && (match (tl w).head? with
  | some c => !decide (c = 61)
  | none => true)
theorem pl_of {w : Str} {S : List Nat} (hS : S.all (fun c => !decide (c ∈ EQS) && !decide (c = 61)) = true) (h : ∀ c ∈ tl w, c ∈ S) : plB w = true := by
  rw [List.all_eq_true] at hS
  unfold plB
  rw [Bool.and_eq_true]
  constructor
  · cases e : (tl w).getLast? with
    | none => rfl
    | some a =>
      have := hS a (h a (List.mem_of_getLast? e))
      rw [Bool.and_eq_true] at this
      exact this.1
  · cases e : (tl w).head? with
    | none => rfl
    | some a =>
      have := hS a (h a (List.mem_of_head? e))
      rw [Bool.and_eq_true] at this
      exact this.2
theorem isL.pl {w : Str} (h : isL w) : plB w = true := pl_of (S := tl LET) (by decide +kernel) h.2
theorem isG.pl {w : Str} (h : isG w) : plB w = true := pl_of (S := tl DIG) (by decide +kernel) h.2
theorem nj_left {w : Str} (h : plB w = true) (v : Str) : nj w v = true := by
  unfold plB at h
  rw [Bool.and_eq_true] at h
  unfold nj
  cases e : (tl w).getLast? with
  | none => rfl
  | some a =>
    cases e2 : (tl v).head? with
    | none => rfl
    | some c =>
      have h1 := h.1
      rw [e] at h1
      have h1 : (!decide (a ∈ EQS)) = true := h1
      show (!(decide (a ∈ EQS) && decide (c = 61))) = true
      rw [Bool.not_eq_true'] at h1
      rw [h1]
      rfl
theorem nj_right (w : Str) {v : Str} (h : plB v = true) : nj w v = true := by
  unfold plB at h
  rw [Bool.and_eq_true] at h
  unfold nj
  cases e : (tl w).getLast? with
  | none => rfl
  | some a =>
    cases e2 : (tl v).head? with
    | none => rfl
    | some c =>
      have h1 := h.2
      rw [e2] at h1
      have h1 : (!decide (c = 61)) = true := h1
      show (!(decide (a ∈ EQS) && decide (c = 61))) = true
      rw [Bool.not_eq_true'] at h1
      rw [h1, Bool.and_false]
      rfl
theorem nj_two {w v : Str} {r : List Str} : Nj (w :: v :: r) = (nj w v && Nj (v :: r)) := rfl
theorem nj_tail {w : Str} {r : List Str} (h : Nj (w :: r) = true) : Nj r = true := by
  cases r with
  | nil => rfl
  | cons v r =>
    rw [nj_two, Bool.and_eq_true] at h
    exact h.2
theorem nj_cons {w : Str} {r : List Str} (h : plB w = true) (hr : Nj r = true) : Nj (w :: r) = true := by
  cases r with
  | nil => rfl
  | cons v r =>
    rw [nj_two, nj_left h v, hr]
    rfl
theorem nj_sig {s w : Str} {r : List Str} (h : plB w = true) (hr : Nj (w :: r) = true) : Nj (s :: w :: r) = true := by
  rw [nj_two, nj_right s h, hr]
  rfl
theorem nj_glue {w : Str} {b : List Str} (h : plB w = true) (hb : Nj b = true) : ∀ {a : List Str}, Nj a = true → Nj (a ++ w :: b) = true
  | [], _ => nj_cons h hb
  | [x], _ => nj_sig h (nj_cons h hb)
  | x :: y :: r, ha => by
    rw [nj_two, Bool.and_eq_true] at ha
    have ih := nj_glue h hb (a := y :: r) ha.2
    show Nj (x :: y :: (r ++ w :: b)) = true
    rw [nj_two, ha.1]
    exact ih
theorem nj_suf {b : List Str} : ∀ {a : List Str}, Nj (a ++ b) = true → Nj b = true
  | [], h => h
  | x :: r, h => nj_suf (a := r) (nj_tail h)
theorem nj_pre {b : List Str} : ∀ {a : List Str}, Nj (a ++ b) = true → Nj a = true
  | [], _ => rfl
  | [x], _ => rfl
  | x :: y :: r, h => by
    have h : Nj (x :: y :: (r ++ b)) = true := h
    rw [nj_two, Bool.and_eq_true] at h
    rw [nj_two, h.1]
    exact nj_pre (a := y :: r) h.2
theorem nj_plain {b : List Str} (hb : Nj b = true) : ∀ {a : List Str}, (∀ w ∈ a, plB w = true) → Nj (a ++ b) = true
  | [], _ => hb
  | w :: r, h => nj_cons (h w List.mem_cons_self) (nj_plain hb fun x hx => h x (List.mem_cons_of_mem _ hx))
/-- words of a text: sorts, places of signs, sizes -/
structure Nw (n : Nat) (ws : List Str) : Prop where
  wd : ∀ w ∈ ws, Wd w ∧ w.length ≤ 14
  nj : Nj ws = true
  len : ws.length ≤ n
theorem Nw.mono {n m : Nat} {ws : List Str} (h : Nw n ws) (hm : n ≤ m) : Nw m ws := ⟨h.wd, h.nj, Nat.le_trans h.len hm⟩
theorem Nw.glue {n m : Nat} {a b : List Str} {w : Str} (ha : Nw n a) (hw : Wd w ∧ w.length ≤ 14) (hp : plB w = true) (hb : Nw m b) : Nw (n + 1 + m) (a ++ w :: b) := by
  refine ⟨fun x hx => ?_, nj_glue hp hb.nj ha.nj, ?_⟩
  · rcases List.mem_append.mp hx with hx | hx
    · exact ha.wd x hx
    · rcases List.mem_cons.mp hx with rfl | hx
      · exact hw
      · exact hb.wd x hx
  · rw [List.length_append, List.length_cons]
    have := ha.len
    have := hb.len
    omega
theorem Nw.pre {n : Nat} {a b : List Str} (h : Nw n (a ++ b)) : Nw n a := ⟨fun x hx => h.wd x (List.mem_append_left _ hx), nj_pre h.nj, by have := h.len; rw [List.length_append] at this; omega⟩
theorem Nw.suf {n : Nat} {a b : List Str} (h : Nw n (a ++ b)) : Nw n b := ⟨fun x hx => h.wd x (List.mem_append_right _ hx), nj_suf h.nj, by have := h.len; rw [List.length_append] at this; omega⟩
theorem Nw.nil : Nw 0 [] := ⟨fun _ h => (by cases h), rfl, Nat.le_refl _⟩
def nwB (n : Nat) (ws : List Str) : Bool := ws.all (fun w => wdB w && decide (w.length ≤ 14)) && Nj ws && decide (ws.length ≤ n)
theorem nwB_ok {n : Nat} {ws : List Str} (h : nwB n ws = true) : Nw n ws := by
  unfold nwB at h
  rw [Bool.and_eq_true, Bool.and_eq_true, List.all_eq_true] at h
  refine ⟨fun w hw => ?_, h.1.2, of_decide_eq_true h.2⟩
  have := h.1.1 w hw
  rw [Bool.and_eq_true] at this
  exact ⟨wdB_ok this.1, of_decide_eq_true this.2⟩
theorem Nw.dropLast {n : Nat} {ws : List Str} (h : Nw n ws) : Nw n ws.dropLast := by
  rcases List.eq_nil_or_concat ws with rfl | ⟨a, x, rfl⟩
  · exact h
  · rw [List.concat_eq_append] at h ⊢
    rw [List.dropLast_concat]
    exact h.pre
/-! ### the words of a place -/
abbrev CON : List Str := ["+", "-", "[", "]", ":", "row", "yes", "no", "turn", "fault", "when", "check", "then"]
theorem con_ok : ∀ w ∈ CON, (wdB w && decide (w.length ≤ 14) && plB w) = true := by decide +kernel
theorem con_at {w : Str} (h : w ∈ CON) : (Wd w ∧ w.length ≤ 14) ∧ plB w = true := by
  have := con_ok w h
  rw [Bool.and_eq_true, Bool.and_eq_true] at this
  exact ⟨⟨wdB_ok this.1.1, of_decide_eq_true this.1.2⟩, this.2⟩
theorem sig_ok : ∀ w ∈ SIG, (wdB w && decide (w.length ≤ 14)) = true := by decide +kernel
theorem sort_of {w : Str} (h : nameW w = true ∨ numberW w = true ∨ w ∈ CON) : (Wd w ∧ w.length ≤ 14) ∧ plB w = true := by
  rcases h with h | h | h
  · exact ⟨⟨.inl (name_isL h), Nat.le_trans (name_parts h).2.1 (by decide)⟩, (name_isL h).pl⟩
  · exact ⟨⟨.inr (.inl (num_isG h)), Nat.le_trans (number_parts h).2.1 (by decide)⟩, (num_isG h).pl⟩
  · exact con_at h
theorem expr_sort {e : Ex} (h : Good e) : ∀ w ∈ wordsE e, (Wd w ∧ w.length ≤ 14) ∧ plB w = true := fun w hw => sort_of (by
  rcases expr_mem h w hw with g | g | g
  · exact .inl g
  · exact .inr (.inl g)
  · have : ∀ w ∈ (["+", "-", "[", "]"] : List Str), w ∈ CON := by decide +kernel
    exact .inr (.inr (this w g)))
theorem expr_len {e : Ex} (h : Good e) : (wordsE e).length ≤ 8 := by
  have pl : ∀ p : Int, (plusW p).length ≤ 2 := fun p => by
    unfold plusW
    split <;> simp
  have pn : ∀ e : Ex, Plain e → (wordsE e).length ≤ 3 := fun e h => by
    cases e with
    | num n =>
      show (if n < 0 then [("-" : Str), numS (-n).toNat] else [numS n.toNat]).length ≤ 3
      split <;> simp
    | var x p =>
      show (x :: plusW p).length ≤ 3
      have := pl p
      rw [List.length_cons]
      omega
    | item x j p => exact h.elim
  cases e with
  | num n => exact Nat.le_trans (pn (.num n) h) (by decide)
  | var x p => exact Nat.le_trans (pn (.var x p) h) (by decide)
  | item x j p =>
    have := pn j h.2.1
    have := pl p
    show ([x, ("[" : Str)] ++ wordsE j ++ [("]" : Str)] ++ plusW p).length ≤ 8
    simp only [List.length_append, List.length_cons, List.length_nil]
    omega
theorem at_len {a : At} (h : a.ok) : a.ws.length ≤ 20 ∧ 2 ≤ a.ws.length := by
  cases a with
  | ev k r => exact ⟨by show 2 ≤ 20; decide, Nat.le_refl 2⟩
  | turn r n => exact ⟨by show 3 ≤ 20; decide, by show 2 ≤ 3; decide⟩
  | fault r w => exact ⟨by show 3 ≤ 20; decide, by show 2 ≤ 3; decide⟩
  | whn r s l e =>
    have h1 := expr_len h.2.2.1
    have h2 := expr_len h.2.2.2
    show (("when" : Str) :: numS r :: (":" : Str) :: (wordsE l ++ (s :: wordsE e))).length ≤ 20 ∧ _ ≤ (("when" : Str) :: numS r :: (":" : Str) :: (wordsE l ++ (s :: wordsE e))).length
    simp only [List.length_cons, List.length_append]
    omega
theorem at_wd {a : At} (h : a.ok) : ∀ w ∈ a.ws, Wd w ∧ w.length ≤ 14 := fun w hw => by
  rcases at_mem h w hw with g | g | g | g
  · exact (sort_of (.inl g)).1
  · exact (sort_of (.inr (.inl g))).1
  · have : ∀ w ∈ (["+", "-", "[", "]", ":", "row", "yes", "no", "turn", "fault", "when", "check"] : List Str), w ∈ CON := by decide +kernel
    exact (con_at (this w g)).1
  · have := sig_ok w g
    rw [Bool.and_eq_true] at this
    exact ⟨wdB_ok this.1, of_decide_eq_true this.2⟩
/-- words that begin plainly, or none -/
def Pf (b : List Str) : Prop := b = [] ∨ ∃ w r, b = w :: r ∧ plB w = true
theorem cmp_nj {s : Str} {l e : Ex} (hl : Good l) (he : Good e) {b : List Str} (hb : Nj b = true) : Nj (wordsE l ++ (s :: (wordsE e ++ b))) = true := by
  obtain ⟨w, q, e2⟩ := List.exists_cons_of_ne_nil (wordsE_ne (e := e))
  have h1 : Nj (wordsE e ++ b) = true := nj_plain hb fun w hw => (expr_sort he w hw).2
  refine nj_plain ?_ fun w hw => (expr_sort hl w hw).2
  rw [e2] at h1 ⊢
  exact nj_sig (expr_sort he w (by rw [e2]; exact List.mem_cons_self)).2 h1
theorem at_nj {a : At} (h : a.ok) {b : List Str} (hb : Nj b = true) : Nj (a.ws ++ b) = true := by
  have ks : ∀ k ∈ KS, k ∈ CON := by decide +kernel
  cases a with
  | ev k r =>
    show Nj (k :: numS r :: b) = true
    exact nj_cons (con_at (ks k h.1)).2 (nj_cons (num_isG (numS_number h.2)).pl hb)
  | turn r n =>
    show Nj (("turn" : Str) :: numS r :: numS n :: b) = true
    exact nj_cons (by decide +kernel) (nj_cons (num_isG (numS_number h.1)).pl (nj_cons (num_isG (numS_number h.2)).pl hb))
  | fault r w =>
    show Nj (("fault" : Str) :: numS r :: w :: b) = true
    refine nj_cons (by decide +kernel) (nj_cons (num_isG (numS_number h.1)).pl (nj_cons ?_ hb))
    rcases h.2 with g | rfl
    · exact (name_isL g).pl
    · decide +kernel
  | whn r s l e =>
    obtain ⟨h1, h2, h3, h4⟩ := h
    have e3 : (At.whn r s l e).ws ++ b = ("when" : Str) :: numS r :: (":" : Str) :: (wordsE l ++ (s :: (wordsE e ++ b))) := by
      show (("when" : Str) :: numS r :: (":" : Str) :: (wordsE l ++ (s :: wordsE e))) ++ b = _
      simp
    rw [e3]
    exact nj_cons (by decide +kernel) (nj_cons (num_isG (numS_number h1)).pl (nj_cons (by decide +kernel) (cmp_nj h3 h4 hb)))
theorem th_sort : (Wd TH ∧ TH.length ≤ 14) ∧ plB TH = true := con_at (by decide +kernel)
theorem place_nw : ∀ {ps : List At}, (∀ a ∈ ps, a.ok) → Nw (21 * ps.length) (plWs ps)
  | [], _ => Nw.nil
  | [a], h => by
    have ha := h a List.mem_cons_self
    have := at_nj ha (b := []) rfl
    rw [List.append_nil] at this
    exact ⟨at_wd ha, this, by have := (at_len ha).1; show a.ws.length ≤ 21; omega⟩
  | a :: b :: r, h => by
    have ha := h a List.mem_cons_self
    have ih := place_nw (ps := b :: r) fun x hx => h x (List.mem_cons_of_mem _ hx)
    refine ⟨fun w hw => ?_, ?_, ?_⟩
    · have hw : w ∈ a.ws ++ TH :: plWs (b :: r) := hw
      rcases List.mem_append.mp hw with hw | hw
      · exact at_wd ha w hw
      · rcases List.mem_cons.mp hw with rfl | hw
        · exact th_sort.1
        · exact ih.wd w hw
    · exact at_nj ha (nj_cons th_sort.2 ih.nj)
    · show (a.ws ++ TH :: plWs (b :: r)).length ≤ _
      have h1 := (at_len ha).1
      have h2 := ih.len
      rw [List.length_append, List.length_cons, List.length_cons, List.length_cons]
      rw [List.length_cons] at h2
      omega
/-! ### without its colons -/
theorem plain_filter {a : List Str} (h : ∀ w ∈ a, plB w = true) (f : Str → Bool) : ∀ w ∈ a.filter f, plB w = true := fun w hw => h w (List.mem_filter.mp hw).1
theorem expr_noCo {e : Ex} (h : Good e) : (wordsE e).filter noCo = wordsE e := List.filter_eq_self.mpr fun w hw => by
  have h1 : nameW CO = false := by decide +kernel
  have h2 : numberW CO = false := by decide +kernel
  have : w ≠ CO := fun z => by
    rcases expr_mem h w hw with g | g | g
    · rw [z, h1] at g; cases g
    · rw [z, h2] at g; cases g
    · rw [z] at g
      exact absurd g (by decide +kernel)
  unfold noCo
  rw [decide_eq_false this]
  rfl
theorem at_njf {a : At} (h : a.ok) {b : List Str} (hb : Nj b = true) : Nj (a.ws.filter noCo ++ b) = true := by
  have ks : ∀ k ∈ KS, k ∈ CON := by decide +kernel
  have three : ∀ x y z : Str, plB x = true → plB y = true → plB z = true → Nj ([x, y, z].filter noCo ++ b) = true := fun x y z hx hy hz => nj_plain hb (plain_filter (fun w hw => by
    simp only [List.mem_cons, List.not_mem_nil, or_false] at hw
    rcases hw with rfl | rfl | rfl
    · exact hx
    · exact hy
    · exact hz) _)
  cases a with
  | ev k r => exact nj_plain hb (plain_filter (a := [k, numS r]) (fun w hw => by
    simp only [List.mem_cons, List.not_mem_nil, or_false] at hw
    rcases hw with rfl | rfl
    · exact (con_at (ks _ h.1)).2
    · exact (num_isG (numS_number h.2)).pl) _)
  | turn r n => exact three _ _ _ (by decide +kernel) (num_isG (numS_number h.1)).pl (num_isG (numS_number h.2)).pl
  | fault r w =>
    refine three _ _ _ (by decide +kernel) (num_isG (numS_number h.1)).pl ?_
    rcases h.2 with g | rfl
    · exact (name_isL g).pl
    · decide +kernel
  | whn r s l e =>
    obtain ⟨h1, h2, h3, h4⟩ := h
    have sg : ∀ s ∈ SIG, noCo s = true := by decide +kernel
    have e3 : (At.whn r s l e).ws.filter noCo ++ b = ([("when" : Str), numS r].filter noCo) ++ (wordsE l ++ (s :: (wordsE e ++ b))) := by
      show (([("when" : Str), numS r] ++ (CO :: (wordsE l ++ (s :: wordsE e)))).filter noCo) ++ b = _
      rw [List.filter_append, List.filter_cons_of_neg (show ¬ noCo CO = true by decide +kernel), List.filter_append, List.filter_cons_of_pos (sg s h2), expr_noCo h3, expr_noCo h4]
      simp only [List.append_assoc, List.cons_append]
    rw [e3]
    exact nj_plain (cmp_nj h3 h4 hb) (plain_filter (a := [("when" : Str), numS r]) (fun w hw => by
      simp only [List.mem_cons, List.not_mem_nil, or_false] at hw
      rcases hw with rfl | rfl
      · decide +kernel
      · exact (num_isG (numS_number h1)).pl) _)
theorem place_njf : ∀ {ps : List At}, (∀ a ∈ ps, a.ok) → Nj ((plWs ps).filter noCo) = true
  | [], _ => rfl
  | [a], h => by
    have := at_njf (h a List.mem_cons_self) (b := []) rfl
    rwa [List.append_nil] at this
  | a :: b :: r, h => by
    have ih := place_njf (ps := b :: r) fun x hx => h x (List.mem_cons_of_mem _ hx)
    show Nj ((a.ws ++ TH :: plWs (b :: r)).filter noCo) = true
    rw [List.filter_append, List.filter_cons_of_pos (show noCo TH = true by decide +kernel)]
    exact at_njf (h a List.mem_cons_self) (nj_cons th_sort.2 ih)
theorem place_nwf {ps : List At} (h : ∀ a ∈ ps, a.ok) : Nw (21 * ps.length) ((plWs ps).filter noCo) :=
  ⟨fun w hw => (place_nw h).wd w (List.mem_filter.mp hw).1, place_njf h, Nat.le_trans (List.length_filter_le _ _) (place_nw h).len⟩
/-! ### a number with a zero ahead -/
theorem zero_bad {w : Str} (h : isG w) : BadNum (("0" : Str) ++ w) := by
  have e : tl (("0" : Str) ++ w) = 48 :: tl w := by
    rw [tl_app, show tl ("0" : Str) = [48] by decide +kernel]
    rfl
  refine ⟨⟨by rw [e]; simp, fun c hc => ?_⟩, ?_⟩
  · rw [e] at hc
    rcases List.mem_cons.mp hc with rfl | hc
    · decide +kernel
    · exact h.2 c hc
  · have hl : (("0" : Str) ++ w).length ≠ 1 := by
      rw [str_len]
      show (tl (("0" : Str) ++ w)).length ≠ 1
      rw [e, List.length_cons]
      have := List.length_pos_iff.mpr h.1
      omega
    unfold numberW
    rw [decide_eq_false hl, e, decide_eq_true (show (48 :: tl w)[0]? = some 48 from rfl)]
    simp
theorem bad_two : ∀ D ∈ (["12345678901", "00"] : List Str), (wdB D && (decide (D.length ≤ 14) && (!numberW D && !(decide (tl D = []) || !((tl D).all fun c => decide (c ∈ tl DIG)))))) = true := by decide +kernel
theorem bad_num {D : Str} (h : D ∈ (["12345678901", "00"] : List Str)) : BadNum D ∧ D.length ≤ 14 := by
  have := bad_two D h
  rw [Bool.and_eq_true, Bool.and_eq_true, Bool.and_eq_true, Bool.not_eq_true', Bool.not_eq_true', Bool.or_eq_false_iff, Bool.not_eq_false', List.all_eq_true] at this
  obtain ⟨_, h2, h3, h4, h5⟩ := this
  exact ⟨⟨⟨of_decide_eq_false h4, fun c hc => of_decide_eq_true (h5 c hc)⟩, h3⟩, of_decide_eq_true h2⟩
/-! ### the text of a place -/
def At.tx : At → Str
  | .ev k r => Txt.join WR.SP [k, numS r]
  | .turn r n => Txt.join WR.SP ["turn", numS r, numS n]
  | .fault r w => Txt.join WR.SP ["fault", numS r, w]
  | .whn r s l e => ("when " : Str) ++ numS r ++ (": " : Str) ++ textC (.cmp s l e)
theorem wd_tok {w : Str} (h : isL w ∨ isG w) : W4.Tok w := by
  rcases h with h | h
  · exact tok_let h.1 h.2
  · exact tok_dig h.1 h.2
theorem to_two {x y : Str} (hx : isL x ∨ isG x) (hy : isL y ∨ isG y) : TextOf (Txt.join WR.SP [x, y]) [x, y] := by
  have := to_sp (to_tok (wd_tok hx)) (to_tok (wd_tok hy))
  have e : Txt.join WR.SP [x, y] = x ++ (" " : Str) ++ y := by
    rw [WR.join_cons (by simp), WR.join_one]
    refine str_ext ?_
    show tl _ = tl _
    simp only [tl_app, List.append_assoc]
  rw [e]
  exact this
theorem to_three {x y z : Str} (hx : isL x ∨ isG x) (hy : isL y ∨ isG y) (hz : isL z ∨ isG z) : TextOf (Txt.join WR.SP [x, y, z]) [x, y, z] := by
  have := to_sp (to_tok (wd_tok hx)) (to_sp (to_tok (wd_tok hy)) (to_tok (wd_tok hz)))
  have e : Txt.join WR.SP [x, y, z] = x ++ (" " : Str) ++ (y ++ (" " : Str) ++ z) := by
    rw [WR.join_cons (by simp), WR.join_cons (by simp), WR.join_one]
    refine str_ext ?_
    show tl _ = tl _
    simp only [tl_app, List.append_assoc]
  rw [e]
  exact this
theorem no58 : (58 : Nat) ∉ tl LET ∧ 58 ∉ tl DIG ∧ 58 ∉ EQS := by decide +kernel
theorem to_colon {x : Str} (hx : isG x) : TextOf (x ++ CO) [x, CO] := by
  have e1 : tl CO = [58] := by decide +kernel
  refine ⟨[(tl x, 0), ([58], 0)], ?_, ?_, by simp, ?_⟩
  · rw [tl_app, e1]
    simp [glue]
  · exact ⟨tok_dig hx.1 hx.2, .inr (no_join_sho no58 (.inr rfl)), tok_one (by decide +kernel)⟩
  · show [mkS (tl x), mkS [58]] = _
    rw [tl_mkS, show mkS ([58] : List Nat) = CO by decide +kernel]
theorem con_isL : ∀ w ∈ (["row", "yes", "no", "turn", "fault", "when", "check", "then"] : List Str), (!decide (tl w = []) && (tl w).all fun c => decide (c ∈ tl LET)) = true := by decide +kernel
theorem isL_con {w : Str} (h : w ∈ (["row", "yes", "no", "turn", "fault", "when", "check", "then"] : List Str)) : isL w := by
  have := con_isL w h
  rw [Bool.and_eq_true, Bool.not_eq_true', List.all_eq_true] at this
  exact ⟨of_decide_eq_false this.1, fun c hc => of_decide_eq_true (this.2 c hc)⟩
theorem at_text {a : At} (h : a.ok) : TextOf a.tx a.ws := by
  have ks : ∀ k ∈ KS, k ∈ (["row", "yes", "no", "turn", "fault", "when", "check", "then"] : List Str) := by decide +kernel
  cases a with
  | ev k r => exact to_two (.inl (isL_con (ks k h.1))) (.inr (num_isG (numS_number h.2)))
  | turn r n => exact to_three (.inl (isL_con (by decide +kernel))) (.inr (num_isG (numS_number h.1))) (.inr (num_isG (numS_number h.2)))
  | fault r w =>
    refine to_three (.inl (isL_con (by decide +kernel))) (.inr (num_isG (numS_number h.1))) ?_
    rcases h.2 with g | rfl
    · exact .inl (name_isL g)
    · exact .inl (isL_con (by decide +kernel))
  | whn r s l e =>
    obtain ⟨h1, h2, h3, h4⟩ := h
    have hc : okC (.cmp s l e) := by
      rw [okC]
      exact ⟨h2, h3, h4⟩
    have t := to_sp (to_tok (wd_tok (.inl (isL_con (w := "when") (by decide +kernel))))) (to_sp (to_colon (num_isG (numS_number h1))) (text_words hc))
    have e1 : (At.whn r s l e).tx = ("when" : Str) ++ (" " : Str) ++ (numS r ++ CO ++ (" " : Str) ++ textC (.cmp s l e)) := by
      refine str_ext ?_
      show tl (("when " : Str) ++ numS r ++ (": " : Str) ++ textC (.cmp s l e)) = tl _
      simp only [tl_app]
      rw [show tl ("when " : Str) = tl ("when" : Str) ++ tl (" " : Str) by decide +kernel, show tl (": " : Str) = tl CO ++ tl (" " : Str) by decide +kernel]
      simp only [List.append_assoc]
    rw [wC] at t
    rw [e1]
    exact t
abbrev JT : Str := " then "
theorem place_text : ∀ {ps : List At}, ps ≠ [] → (∀ a ∈ ps, a.ok) → TextOf (Txt.join JT (ps.map At.tx)) (plWs ps)
  | [], h, _ => absurd rfl h
  | [a], _, h => by
    rw [List.map_cons, List.map_nil, WR.join_one]
    exact at_text (h a List.mem_cons_self)
  | a :: b :: r, _, h => by
    have ih := place_text (ps := b :: r) (List.cons_ne_nil _ _) fun x hx => h x (List.mem_cons_of_mem _ hx)
    have t := to_sp (to_sp (at_text (h a List.mem_cons_self)) (to_tok (wd_tok (.inl (isL_con (w := TH) (by decide +kernel)))))) ih
    have e : Txt.join JT ((a :: b :: r).map At.tx) = a.tx ++ (" " : Str) ++ TH ++ (" " : Str) ++ Txt.join JT ((b :: r).map At.tx) := by
      rw [List.map_cons, WR.join_cons (by simp)]
      refine str_ext ?_
      show tl _ = tl _
      simp only [tl_app]
      rw [show tl JT = tl (" " : Str) ++ (tl TH ++ tl (" " : Str)) by decide +kernel]
      simp only [List.append_assoc]
    rw [e]
    rw [List.append_assoc] at t
    exact t
end W23
/-! W23F: what is read is good; places as data. -/
namespace W23
open PySem PySem.Spec PyProof.Rows L2 Wy WQ WM W3 W4 W5 W7
open W30 (isN)
theorem plus_okR {ws : List Str} {i j : Nat} {p : Int} (h : takePlus ws i = some (p, j)) : p.natAbs < 10 ^ 10 := by
  unfold takePlus at h
  split at h
  · split at h
    · rename_i hn
      have := dv_bound hn
      cases h
      split <;> omega
    · cases h
  · cases h
    decide
theorem signed_okR {ws : List Str} {i j : Nat} {p : Int} (h : takeSigned ws i = some (p, j)) : p.natAbs < 10 ^ 10 := by
  unfold takeSigned at h
  split at h
  · rename_i hn
    have := dv_bound hn
    cases h
    omega
  · split at h
    · rename_i hn
      have := dv_bound hn.2
      cases h
      omega
    · cases h
theorem plain_okR {ws : List Str} {i j : Nat} {e : Ex} (h : takePlain ws i = some (e, j)) : Plain e := by
  unfold takePlain at h
  split at h
  · rename_i hn
    split at h
    · cases h
    · rename_i e2
      cases h
      exact ⟨hn, plus_okR e2⟩
  · split at h
    · cases h
    · rename_i e2
      cases h
      exact signed_okR e2
theorem expr_okR {ws : List Str} {i j : Nat} {e : Ex} (h : takeExpr ws i = some (e, j)) : Good e := by
  unfold takeExpr at h
  split at h
  · rename_i hn
    split at h
    · cases h
    · rename_i e2
      split at h
      · split at h
        · cases h
        · rename_i e3
          cases h
          exact ⟨hn.1, plain_okR e2, plus_okR e3⟩
      · cases h
  · exact (plain_okR h).good
theorem cmp_okR {ws : List Str} {s : Str} {l e : Ex} (h : readCmp ws = some (.cmp s l e)) : s ∈ SIG ∧ Good l ∧ Good e := by
  unfold readCmp wholeC takeCmp at h
  split at h
  · cases h
  · rename_i c2 j e0
    split at h
    · cases h
      split at e0
      · cases e0
      · rename_i e1
        split at e0
        · rename_i hs
          split at e0
          · cases e0
          · rename_i e2
            cases e0
            exact ⟨hs, expr_okR e1, expr_okR e2⟩
        · cases e0
    · cases h
theorem name_strOk {x : Str} (h : nameW x = true) : PyData.strOk x = true := WR.ok_of fun c hc => by
  have key : ∀ c ∈ tl LET, c < 1114112 := by decide +kernel
  exact key c ((name_parts h).2.2.2 c hc)
theorem lay_str {z : Str} (h : PyData.strOk z = true) : (PyData.str z).canLay0 = true ∧ (PyData.str z).depth ≤ 0 := ⟨by simp [PyData.canLay0, h], by simp [PyData.depth]⟩
theorem lay_up {d : PyData} {n m : Nat} (h : d.canLay0 = true ∧ d.depth ≤ n) (hm : n ≤ m) : d.canLay0 = true ∧ d.depth ≤ m := ⟨h.1, Nat.le_trans h.2 hm⟩
theorem lay_plain {e : Ex} (h : Plain e) : e.d.canLay0 = true ∧ e.d.depth ≤ 1 := by
  cases e with
  | num n =>
    exact lay_tup (ds := [.str "num", .int n]) (n := 0) fun x hx => by
      simp only [List.mem_cons, List.not_mem_nil, or_false] at hx
      rcases hx with rfl | rfl
      · exact lay_str (by decide +kernel)
      · exact lay_int _
  | var x p =>
    exact lay_tup (ds := [.str "var", .str x, .int p]) (n := 0) fun y hx => by
      simp only [List.mem_cons, List.not_mem_nil, or_false] at hx
      rcases hx with rfl | rfl | rfl
      · exact lay_str (by decide +kernel)
      · exact lay_str (name_strOk h.1)
      · exact lay_int _
  | item x j p => exact h.elim
theorem lay_good {e : Ex} (h : Good e) : e.d.canLay0 = true ∧ e.d.depth ≤ 2 := by
  cases e with
  | num n => exact lay_up (lay_plain (e := .num n) h) (by decide)
  | var x p => exact lay_up (lay_plain (e := .var x p) h) (by decide)
  | item x j p =>
    exact lay_tup (ds := [.str "item", .str x, j.d, .int p]) (n := 1) fun y hx => by
      simp only [List.mem_cons, List.not_mem_nil, or_false] at hx
      rcases hx with rfl | rfl | rfl | rfl
      · exact lay_up (lay_str (by decide +kernel)) (by decide)
      · exact lay_up (lay_str (name_strOk h.1)) (by decide)
      · exact lay_plain h.2.1
      · exact lay_up (lay_int _) (by decide)
theorem con_str : ∀ w ∈ (["row", "yes", "no", "turn", "fault", "when", "check", "<", "<=", ">", ">=", "==", "!="] : List Str), PyData.strOk w = true := by decide +kernel
theorem lay_atom (ws : List Str) : (atomO ws).canLay0 = true ∧ (atomO ws).depth ≤ 3 := by
  have h0 : (PyData.none).canLay0 = true ∧ (PyData.none).depth ≤ 3 := ⟨by decide +kernel, by decide +kernel⟩
  have ks : ∀ w ∈ KS, w ∈ (["row", "yes", "no", "turn", "fault", "when", "check", "<", "<=", ">", ">=", "==", "!="] : List Str) := by decide +kernel
  have sg : ∀ w ∈ SIG, w ∈ (["row", "yes", "no", "turn", "fault", "when", "check", "<", "<=", ">", ">=", "==", "!="] : List Str) := by decide +kernel
  unfold atomO
  split
  · exact h0
  · split
    · split
      · cases hc : readCmp (ws.drop 3) with
        | none => exact h0
        | some c =>
          cases c with
          | cmp s l e =>
            obtain ⟨h1, h2, h3⟩ := cmp_okR hc
            exact lay_tup (ds := [.str "when", .int _, .str s, l.d, e.d]) (n := 2) fun y hx => by
              simp only [List.mem_cons, List.not_mem_nil, or_false] at hx
              rcases hx with rfl | rfl | rfl | rfl | rfl
              · exact lay_up (lay_str (by decide +kernel)) (by decide)
              · exact lay_up (lay_int _) (by decide)
              · exact lay_up (lay_str (con_str _ (sg _ h1))) (by decide)
              · exact lay_good h2
              · exact lay_good h3
          | no c => exact h0
          | jn o cs => exact h0
      · exact h0
    · split
      · rename_i hk
        exact lay_up (lay_tup (ds := [.str _, .int _]) (n := 0) fun y hx => by
          simp only [List.mem_cons, List.not_mem_nil, or_false] at hx
          rcases hx with rfl | rfl
          · exact lay_str (con_str _ (ks _ hk.1))
          · exact lay_int _) (by decide)
      · split
        · rename_i hk
          exact lay_up (lay_tup (ds := [.str _, .int _, .int _]) (n := 0) fun y hx => by
            simp only [List.mem_cons, List.not_mem_nil, or_false] at hx
            rcases hx with rfl | rfl | rfl
            · rw [hk.1]
              exact lay_str (by decide +kernel)
            · exact lay_int _
            · exact lay_int _) (by decide)
        · split
          · rename_i hk
            exact lay_up (lay_tup (ds := [.str _, .int _, .str _]) (n := 0) fun y hx => by
              simp only [List.mem_cons, List.not_mem_nil, or_false] at hx
              rcases hx with rfl | rfl | rfl
              · rw [hk.1]
                exact lay_str (by decide +kernel)
              · exact lay_int _
              · rcases hk.2.2 with g | g
                · exact lay_str (name_strOk g)
                · rw [g]
                  exact lay_str (by decide +kernel)) (by decide)
          · exact h0
/-- what is read of a text -/
def placeO (z : Str) : Option (List PyData) := match wordsW z with
  | none => none
  | some ws => if 3 < (partsO ws).length then none else if ((partsO ws).map atomO).any isN = true then none else some ((partsO ws).map atomO)
theorem place_bad {z : Str} {ws : List Str} (h : wordsW z = some ws) (hb : plF ws) : placeO z = none := by
  unfold placeO
  rw [h]
  show (if 3 < (partsO ws).length then none else if ((partsO ws).map atomO).any isN = true then none else some _) = none
  rcases hb with hb | ⟨p, hp, hb⟩
  · rw [if_pos hb]
  · split
    · rfl
    · rw [if_pos]
      rw [List.any_map, List.any_eq_true]
      exact ⟨p, hp, hb⟩
theorem place_none {z : Str} (h : wordsW z = none) : placeO z = none := by
  unfold placeO
  rw [h]
theorem place_good {z : Str} {ps : List At} (hne : ps ≠ []) (hl : ps.length ≤ 3) (h : ∀ a ∈ ps, a.ok) (hz : wordsW z = some (plWs ps)) : placeO z = some (ps.map At.d) := by
  have e : (partsO (plWs ps)).map atomO = ps.map At.d := by
    rw [parts_place hne h, List.map_map]
    exact List.map_congr_left fun a ha => atom_good (h a ha)
  unfold placeO
  rw [hz]
  show (if 3 < (partsO (plWs ps)).length then none else if ((partsO (plWs ps)).map atomO).any isN = true then none else some _) = _
  rw [e, parts_place hne h, List.length_map, if_neg (by omega), if_neg]
  rw [List.any_map]
  intro z
  obtain ⟨a, _, h⟩ := List.any_eq_true.mp z
  rw [show (isN ∘ At.d) a = isN a.d from rfl, at_notN] at h
  cases h
end W23
namespace W10
open PySem PySem.Spec PyProof.Rows L2 Wy WM W3 W4 W5 W7 W8 W9
/-! ### joined texts -/
theorem joinS_tl (o : Bool) : ∀ zs : List Str, tl (joinS o zs) = TL.joinL (tl ((" " : Str) ++ jw o ++ (" " : Str))) (zs.map tl)
  | [] => rfl
  | [_] => rfl
  | x :: y :: r => by
    have ih := joinS_tl o (y :: r)
    show tl (x ++ (" " : Str) ++ jw o ++ (" " : Str) ++ joinS o (y :: r)) = tl x ++ (tl ((" " : Str) ++ jw o ++ (" " : Str)) ++ TL.joinL _ ((y :: r).map tl))
    rw [← ih, tl_app, tl_app, tl_app, tl_app, tl_app, tl_app]
    simp
theorem join_joinS (o : Bool) (zs : List Str) : Txt.join ((" " : Str) ++ jw o ++ (" " : Str)) zs = joinS o zs := by
  refine str_ext ?_
  rw [TL.join_eq]
  have h := TL.tl_join ((" " : Str) ++ jw o ++ (" " : Str)) zs
  exact h.trans (joinS_tl o zs).symm
/-! ### how long the texts are -/
mutual
def wt : Cd → Nat
  | .cmp _ _ _ => 130
  | .no c => wt c + 6
  | .jn _ cs => wts cs
def wts : List Cd → Nat
  | [] => 0
  | c :: cs => wt c + 7 + wts cs
end
theorem wrap_len (b : Bool) (z : Str) : (wrap b z).length ≤ z.length + 2 := by
  cases b with
  | false => exact Nat.le_add_right _ _
  | true =>
    show (("(" : Str) ++ z ++ (")" : Str)).length ≤ _
    rw [app_len, app_len]
    show 1 + z.length + 1 ≤ _
    omega
theorem sig_len {s : Str} (h : s ∈ SIG) : s.length ≤ 2 := by
  have : ∀ s ∈ SIG, s.length ≤ 2 := by decide +kernel
  exact this s h
theorem jw_len (o : Bool) : (jw o).length ≤ 3 := by cases o <;> decide
theorem joinS_len (o : Bool) : ∀ zs : List Str, (joinS o zs).length ≤ (zs.map (·.length)).sum + 5 * zs.length
  | [] => by simp [joinS, Str.empty, Str.length]
  | [x] => by simp [joinS]
  | x :: y :: r => by
    have ih := joinS_len o (y :: r)
    have j := jw_len o
    show (x ++ (" " : Str) ++ jw o ++ (" " : Str) ++ joinS o (y :: r)).length ≤ (x.length + ((y :: r).map (·.length)).sum) + 5 * ((y :: r).length + 1)
    rw [app_len, app_len, app_len, app_len]
    show x.length + 1 + (jw o).length + 1 + (joinS o (y :: r)).length ≤ _
    omega
theorem texts_count (o : Bool) : ∀ cs : List Cd, (textsC o cs).length = cs.length
  | [] => by rw [textsC]; rfl
  | c :: cs => by rw [textsC, List.length_cons, List.length_cons, texts_count o cs]
mutual
theorem text_len : ∀ {c : Cd}, okC c → (textC c).length ≤ wt c
  | .cmp s l r, h => by
    rw [okC] at h
    have h1 := good_len h.2.1
    have h2 := good_len h.2.2
    have h3 := sig_len h.1
    rw [textC, wt, app_len, app_len, app_len, app_len]
    show (textE l).length + 1 + s.length + 1 + (textE r).length ≤ 130
    omega
  | .no c, h => by
    rw [okC] at h
    have ih := text_len h
    have w := wrap_len (needB false c) (textC c)
    rw [textC, wt, app_len, app_len]
    show 3 + 1 + _ ≤ _
    omega
  | .jn o cs, h => by
    rw [okC] at h
    have ih := texts_len o h.2
    have j := joinS_len o (textsC o cs)
    rw [textC, wt]
    rw [texts_count] at j
    omega
theorem texts_len (o : Bool) : ∀ {cs : List Cd}, oksC cs → ((textsC o cs).map (·.length)).sum + 5 * cs.length ≤ wts cs
  | [], _ => by
    rw [textsC, wts]
    exact Nat.le_refl _
  | c :: cs, h => by
    rw [oksC] at h
    have i1 := text_len h.1
    have i2 := texts_len o h.2
    have w := wrap_len (needB o c) (textC c)
    rw [textsC, wts, List.map_cons, List.sum_cons, List.length_cons]
    omega
end
/-! ### how deep a condition may be -/
mutual
def dp : Nat → Cd → Prop
  | _, .cmp _ _ _ => True
  | 0, .no _ => False
  | n + 1, .no c => dp n c
  | 0, .jn _ _ => False
  | n + 1, .jn _ cs => dps n cs
def dps : Nat → List Cd → Prop
  | _, [] => True
  | n, c :: cs => dp n c ∧ dps n cs
end
theorem dp_no {n : Nat} {c : Cd} (h : dp n (.no c)) : ∃ m, n = m + 1 ∧ dp m c := by
  cases n with
  | zero => simp only [dp] at h
  | succ m =>
    simp only [dp] at h
    exact ⟨m, rfl, h⟩
theorem dp_jn {n : Nat} {o : Bool} {cs : List Cd} (h : dp n (.jn o cs)) : ∃ m, n = m + 1 ∧ dps m cs := by
  cases n with
  | zero => simp only [dp] at h
  | succ m =>
    simp only [dp] at h
    exact ⟨m, rfl, h⟩
theorem dps_get {n : Nat} : ∀ {cs : List Cd} {i : Nat} {c : Cd}, dps n cs → cs[i]? = some c → dp n c
  | [], _, _, _, h => by cases h
  | c :: cs, 0, _, g, h => by
    cases h
    rw [dps] at g
    exact g.1
  | c :: cs, i + 1, _, g, h => by
    have h : cs[i]? = some _ := h
    rw [dps] at g
    exact dps_get g.2 h
theorem oks_get : ∀ {cs : List Cd} {i : Nat} {c : Cd}, oksC cs → cs[i]? = some c → okC c
  | [], _, _, _, h => by cases h
  | c :: cs, 0, _, g, h => by
    cases h
    rw [oksC] at g
    exact g.1
  | c :: cs, i + 1, _, g, h => by
    have h : cs[i]? = some _ := h
    rw [oksC] at g
    exact oks_get g.2 h
theorem wts_get : ∀ {cs : List Cd} {i : Nat} {c : Cd}, cs[i]? = some c → wt c + 7 ≤ wts cs
  | [], _, _, h => by cases h
  | c :: cs, 0, _, h => by
    cases h
    rw [wts]
    omega
  | c :: cs, i + 1, _, h => by
    have h : cs[i]? = some _ := h
    have ih := wts_get h
    rw [wts]
    omega
theorem ds_get : ∀ {cs : List Cd} {i : Nat} {c : Cd}, cs[i]? = some c → (Cd.ds cs)[i]? = some c.d
  | [], _, _, h => by cases h
  | c :: cs, 0, _, h => by
    cases h
    rfl
  | c :: cs, i + 1, _, h => by
    have h : cs[i]? = some _ := h
    exact ds_get (cs := cs) (i := i) h
theorem texts_get (o : Bool) : ∀ {cs : List Cd} {i : Nat} {c : Cd}, cs[i]? = some c → (textsC o cs).take (i + 1) = (textsC o cs).take i ++ [wrap (needB o c) (textC c)]
  | [], _, _, h => by cases h
  | c :: cs, 0, _, h => by
    cases h
    rw [textsC]
    rfl
  | c :: cs, i + 1, _, h => by
    have h : cs[i]? = some _ := h
    have ih := texts_get o h
    rw [textsC, List.take_succ_cons, ih, List.take_succ_cons]
    rfl
/-- the parts of a condition -/
theorem cd_cmp {H : Hp} {v : V} {s : Str} {l r : Ex} (h : Tp H v (Cd.cmp s l r).d) : ∃ a u x, v = .ref a ∧ H a = some (.tup [.str "cmp", .str s, u, x]) ∧ Tp H u l.d ∧ Tp H x r.d := by
  rw [Cd.d] at h
  cases h with
  | tup e r =>
    cases r with | cons h1 r => cases r with | cons h2 r => cases r with | cons h3 r => cases r with | cons h4 r =>
      cases r
      cases h1
      cases h2
      exact ⟨_, _, _, rfl, e, h3, h4⟩
theorem cd_no {H : Hp} {v : V} {c : Cd} (h : Tp H v (Cd.no c).d) : ∃ a u, v = .ref a ∧ H a = some (.tup [.str "not", u]) ∧ Tp H u c.d := by
  rw [Cd.d] at h
  cases h with
  | tup e r =>
    cases r with | cons h1 r => cases r with | cons h2 r =>
      cases r
      cases h1
      exact ⟨_, _, rfl, e, h2⟩
theorem cd_jn {H : Hp} {v : V} {o : Bool} {cs : List Cd} (h : Tp H v (Cd.jn o cs).d) : ∃ a b us, v = .ref a ∧ H a = some (.tup [.str (jw o), .ref b]) ∧ H b = some (.tup us) ∧ TpAll H us (Cd.ds cs) := by
  rw [Cd.d] at h
  cases h with
  | tup e r =>
    cases r with | cons h1 r => cases r with | cons h2 r =>
      cases r
      cases h1
      cases h2 with
      | tup e2 r2 => exact ⟨_, _, _, rfl, e, e2, r2⟩
theorem part_at {H : Hp} {us : List V} {cs : List Cd} {i : Nat} {x : V} (t : TpAll H us (Cd.ds cs)) (hx : us[i]? = some x) : ∃ c, cs[i]? = some c ∧ Tp H x c.d := by
  have hl := t.length
  rw [ds_len] at hl
  have hi := (List.getElem?_eq_some_iff.mp hx).1
  have hc : cs[i]? = some cs[i] := List.getElem?_eq_getElem (by omega)
  obtain ⟨v, e, tv⟩ := t.get (ds_get hc)
  rw [hx] at e
  cases e
  exact ⟨_, hc, tv⟩
/-- what stands first in a condition -/
def kw : Cd → Str
  | .cmp _ _ _ => "cmp"
  | .no _ => "not"
  | .jn o _ => jw o
theorem cd_first {H : Hp} {v : V} {c : Cd} (h : Tp H v c.d) : ∃ a xs, v = .ref a ∧ H a = some (.tup xs) ∧ xs[0]? = some (.str (kw c)) := by
  cases c with
  | cmp s l r =>
    obtain ⟨a, u, x, e1, e2, _⟩ := cd_cmp h
    exact ⟨a, _, e1, e2, rfl⟩
  | no c =>
    obtain ⟨a, u, e1, e2, _⟩ := cd_no h
    exact ⟨a, _, e1, e2, rfl⟩
  | jn o cs =>
    obtain ⟨a, b, us, e1, e2, _⟩ := cd_jn h
    exact ⟨a, _, e1, e2, rfl⟩
theorem need_in (o : Bool) (c : Cd) : inV (.str (kw c)) ((if o then (["or"] : List Str) else ["and", "or"]).map V.str) = needB o c := by
  cases c with
  | cmp _ _ _ => cases o <;> (show inV (.str "cmp") _ = false; decide +kernel)
  | no _ => cases o <;> (show inV (.str "not") _ = false; decide +kernel)
  | jn o2 _ => cases o <;> cases o2 <;> (first | (show inV (.str "and") _ = true; decide +kernel) | (show inV (.str "or") _ = true; decide +kernel) | (show inV (.str "and") _ = false; decide +kernel))
section
variable {K : PySem.W.Frag} {σ : L2.St} {H : Hp} {Q : VK} {g : TG} {te : TE}
theorem c_tup {a : Addr} {xs : List V} {vs : List Nat} {tt : TT} (Pv : Addr → Nat → Hp → Prop) (h0 : ∀ D H1, H D = none → Same H H1 → H1 D = some (.lst []) → Pv D 0 H1) (hl : ∀ D i H1, i ≤ xs.length → H D = none → Pv D i H1 → SqT K H1 a xs)
    (hs : ∀ D i x H1, xs[i]? = some x → H D = none → Pv D i H1 → g x (wipe σ vs) H1 fun σ2 H2 => wipe σ2 vs = wipe σ vs ∧ tt σ2 H2 fun b H3 =>
      if b = true then te σ2 H3 fun y H4 => COut D y H4 (Pv D (i + 1)) else Pv D (i + 1) H3) (hd : ∀ D H1, H D = none → Pv D xs.length H1 → Q (.ref D) H1) :
    LoopC (Itt K a) g tt te vs σ H Q := fun D nD => lc_tup (Pv D) (h0 D _ nD (same_new nD) upd_same) (fun i H1 hi p => hl D i H1 hi nD p) (fun i x H1 hi p => hs D i x H1 hi nD p) fun H1 p => hd D H1 nD p
end
/-- a walk over a list or a tuple -/
def iSeq (K : PySem.W.Frag) (te : TE) : TI := fun σ H R => iList K te σ H R ∨ iTup K te σ H R
theorem pi_seq {X : Cx} {tg e : Expr} {te : TE} (h : PE X e te) : PI X tg e (iSeq X.K te) := ⟨fun pins s σ H R I q => q.elim (fun q => (pi_list h).run pins s σ H R I q) (fun q => (pi_tup h).run pins s σ H R I q)⟩
theorem w_sl {K : PySem.W.Frag} {te : TE} {σ : L2.St} {H : Hp} {R : It → Hp → Prop} (h : te σ H fun x H1 => KL K x H1 R) : iSeq K te σ H R := .inl h
theorem w_st {K : PySem.W.Frag} {te : TE} {σ : L2.St} {H : Hp} {R : It → Hp → Prop} (h : te σ H fun x H1 => KT K x H1 R) : iSeq K te σ H R := .inr h
end W10

/-! W23G: isalpha and isdigit of texts; slices from a tuple's start. -/
namespace W23
open PySem PySem.Spec PyProof.Rows L2 Wy WO
def rAlpha : V → List V → Hp → VK → Prop := fun x xs H Q => ∃ a, x = .str a ∧ xs = [] ∧ True ∧ Q (.bl (Txt.isalpha a)) H
def rDigit : V → List V → Hp → VK → Prop := fun x xs H Q => ∃ a, x = .str a ∧ xs = [] ∧ True ∧ Q (.bl (Txt.isdigit a)) H
theorem mt_alpha {X : Cx} : MtR X "str.isalpha" rAlpha := mt_isalpha
theorem mt_digit {X : Cx} : MtR X "str.isdigit" rDigit := mt_isdigit
section
variable {H : Hp} {Q : VK} {K : PySem.W.Frag} {σ : L2.St} {a : Addr}
theorem m_alpha {z : Str} (h : Q (.bl (Txt.isalpha z)) H) : tyV K "str" (.str z) H ∧ rAlpha (.str z) [] H Q := ⟨rfl, z, rfl, rfl, trivial, h⟩
theorem m_digit {z : Str} (h : Q (.bl (Txt.isdigit z)) H) : tyV K "str" (.str z) H ∧ rDigit (.str z) [] H Q := ⟨rfl, z, rfl, rfl, trivial, h⟩
theorem cut_pre (xs : List V) (j : Nat) : cutV xs none (some (j : Int)) = xs.take j := by
  unfold cutV
  rw [HT.sIx_none, HT.sIx_nat, List.drop_zero, Nat.sub_zero]
  by_cases h : j ≤ xs.length
  · rw [Nat.min_eq_left h]
  · rw [Nat.min_eq_right (by omega), List.take_of_length_le (by omega), List.take_of_length_le (by omega)]
theorem cut_suf (xs : List V) (j : Nat) : cutV xs (some (j : Int)) none = xs.drop j := by
  unfold cutV
  rw [HT.sIx_none, HT.sIx_nat]
  by_cases h : j ≤ xs.length
  · rw [Nat.min_eq_left h, List.take_of_length_le (by rw [List.length_drop]; exact Nat.le_refl _)]
  · rw [Nat.min_eq_right (by omega), Nat.sub_self, List.take_zero, List.drop_of_length_le (by omega)]
theorem l_pre {xs : List V} {n : Nat} (e : H a = some (.tup xs)) (h : ∀ p H2, Same H H2 → H2 p = some (.tup (xs.take n)) → Q (.ref p) H2) : rSlA K (.ref a) none (some (n : Int)) H Q := by
  refine ⟨a, xs, rfl, tup_of e, fun z => h a H (Same.refl _) ?_, fun _ => new_same fun p H2 _ s e2 => h p H2 s (by rw [e2, cut_pre])⟩
  have z := z.2
  rw [HT.sIx_nat] at z
  rw [e, List.take_of_length_le (by omega)]
end
theorem pe_bm0K {X : Cx} {K : PySem.W.Frag} {o : Expr} {to : TE} {name : Str} {apos cpos : Pos} {T id : String} {r : V → List V → Hp → VK → Prop} (pa : PlainAttrs T) (slot : Slot T name id) (hty : typeOf (.builtin id) = pure (.type "method_descriptor")) (hm : MtR X id r) (ho : PE X o to) (hK : X.K = K := by rfl)
    (hbase : attributeBase o name X.env (eval o X.env) = eval o X.env := by rfl) (hline : (apos.endLine == cpos.line) = true := by rfl) : PE X (.Call (.Attribute o name apos) [] [] cpos) (tBM0 K T r to) := hK ▸ pe_bm0 pa slot hty hm ho hbase hline
end W23
/-! WFT: isinstance of what was caught, with a tuple of classes. -/
namespace WF
open PySem PySem.Spec PyProof.Rows L2 Wy
def rIsXT (K : PySem.W.Frag) (a : Addr) (cls : Value) (d : Option Addr) : List V → Hp → VK → Prop := fun xs H Q => ∃ (D tp : Addr) (cs : List V) (us : List Value) (b : Bool), cls = .ref D ∧ d = none ∧ ExcC K D ∧ xs = [.ref a, .ref tp] ∧ H tp = some (.tup cs) ∧ Paired ClsV cs us ∧ PySem.W.kitAny K (.ref D) us = some b ∧ Q (.bl b) H
theorem call_isXT {X : Cx} {a : Addr} {cls : Value} {d : Option Addr} {oe : Obj} {pn : List (Addr × Obj)} (hz : Zc cls d oe) (hf : ∃ vs, oe.data = .fields vs) : CallR (X.suite a ((a, oe) :: pn)) (.builtin "isinstance") (rIsXT X.K a cls d) := by
  intro pins s σ H xs us Q I r h
  obtain ⟨D, tp, cs, ws, b, rfl, rfl, C, rfl, hT, k, e, q⟩ := h
  cases r with
  | cons rx rr =>
    cases rr with
    | cons rt rr =>
      cases rr
      cases rx
      cases rt
      obtain ⟨hget, _⟩ := I.pin (a, oe) (List.mem_append.mpr (.inl List.mem_cons_self))
      obtain ⟨vs, hv⟩ := hf
      have J : PySem.W.InstAt s.heap a oe D none := by
        obtain ⟨oc, od, oda, osl⟩ := oe
        obtain ⟨h1, h2⟩ := hz
        dsimp only at h1 h2 hv
        subst h1 h2 hv
        exact ⟨hget, rfl, rfl, trivial⟩
      obtain ⟨_, its, rv, o, h1, h2, n, h3⟩ := (show ObjOk X.prog X.w H s.heap tp (.tup cs) from I.hok tp _ hT)
      have e3 := ClsV.all k rv
      subst e3
      obtain ⟨oc, od, dt, sl⟩ := o
      simp only at h2 h3
      subst h2 h3
      exact PySem.W.kia_tup (PySem.W.handS_kitx_exc C.hg C.hk C.hs C.hd C.ha C.hn C.ht C.hm) I.kIn J h1 e (fun z => nomatch z) fun tk => ⟨.bl b, H, I.kept (t' := tk) fun _ _ z => z, rfl, q⟩
theorem b_isX2 {K : PySem.W.Frag} {H : Hp} {Q : VK} {mg : Str → Option Value} {x y z : Str} {a t : Addr} {b c : Bool} (E : ExK K mg x) (u : Ups K (.ref (He.ga K x)) (.ref (He.ga K y)) b) (v : Ups K (.ref (He.ga K x)) (.ref (He.ga K z)) c) (e : H t = some (.tup [.ref (He.ga K y), .ref (He.ga K z)])) (h : Q (.bl (b || c)) H) : rIsXT K a (.ref (He.ga K x)) none [.ref a, .ref t] H Q := by
  refine ⟨_, t, _, [.ref (He.ga K y), .ref (He.ga K z)], b || c, rfl, rfl, E.eP, rfl, e, .cons (.own _) (.cons (.own _) .nil), ?_, h⟩
  have h1 := u.i
  have h2 := v.i
  cases b <;> cases c <;> simp [PySem.W.kitAny, h1, h2]
end WF
/-! WB: numbers with bounds, and their texts. -/
namespace WB
open PySem PySem.Spec PyProof.Rows L2 Wy WN WQ WS WC
/-- at most so great -/
def Bd (n : Nat) (i : Int) : Prop := i.natAbs < 10 ^ n
theorem Bd.iff {n : Nat} {i : Int} : Bd n i ↔ -(10 ^ n : Nat) < i ∧ i < (10 ^ n : Nat) := by
  unfold Bd
  omega
def DfB (n : Nat) (d : Df) : Prop := Bd n d.1 ∧ Bd n d.2.1 ∧ Bd n d.2.2
def spWtB : Sp := fun vs H Q _ => ∃ d : Int, vs = [.int d] ∧ ∀ r : Int, Bd 40 r → Q (.int r) H
def spDiffsB (K : PySem.W.Frag) : Sp := fun vs H Q _ => ∃ (a : Addr) (zs : List Int) (pl : Int) (n m : Nat), vs = [.ref a, .int pl, .int n, .int m] ∧ SqL K H a (zs.map V.int) ∧ n ≤ 100 ∧ m ≤ 1000 ∧
  ∀ p us H' ds, Same H H' → H p = none → H' p = some (.lst us) → TpAll H' us ((ds : List Df).map dfD) → ds.length = n → (∀ d ∈ ds, InR m d ∧ Bd 40 d.2.2) → Q (.ref p) H'
/-! ### texts of data -/
/-- data whose text is short: depth, weight -/
structure Rp (k n : Nat) (d : PyData) : Prop where
  sh : d.showable = true
  hd : d.hasDict = false
  lv : d.leavesShort 60 = true
  wt : d.weight ≤ n
  dp : d.depth ≤ k
theorem Rp.mono {k n k' n' : Nat} {d : PyData} (r : Rp k n d) (h : k ≤ k') (h' : n ≤ n') : Rp k' n' d := ⟨r.sh, r.hd, r.lv, Nat.le_trans r.wt h', Nat.le_trans r.dp h⟩
theorem rp_int {i : Int} (h : Bd 58 i) : Rp 0 200 (.int i) := by
  have hp : 10 ^ 58 ≤ 2 ^ 193 := by decide +kernel
  have h2 : i.natAbs.log2 < 193 := by
    by_cases h0 : i.natAbs = 0
    · rw [h0]
      decide
    · rw [Nat.log2_lt h0]
      exact Nat.lt_of_lt_of_le h hp
  refine ⟨?_, rfl, ?_, ?_, by simp [PyData.depth]⟩
  · simp only [PyData.showable, decide_eq_true_eq]
    omega
  · have e := PySem.int_text_length_le10 (k := 58) (by decide) h
    show decide ((Str.ofString (toString i)).length ≤ 60) = true
    rw [decide_eq_true_eq, PySem.ofString_length]
    omega
  · show (if i == 0 then 0 else i.natAbs.log2 + 1) ≤ 200
    split <;> omega
theorem all_parts {k n : Nat} : ∀ {ds : List PyData}, (∀ x ∈ ds, Rp k n x) → PyData.showableAll ds = true ∧ PyData.hasDictAll ds = false ∧ PyData.leavesShortAll 60 ds = true ∧ PyData.weightAll ds ≤ ds.length * (n + 1) ∧ PyData.depthAll ds ≤ k
  | [], _ => ⟨rfl, rfl, rfl, Nat.zero_le _, by simp [PyData.depthAll]⟩
  | x :: xs, h => by
    have h1 := h x List.mem_cons_self
    obtain ⟨a1, a2, a3, a4, a5⟩ := all_parts fun y hy => h y (List.mem_cons_of_mem _ hy)
    refine ⟨?_, ?_, ?_, ?_, ?_⟩
    · simp only [PyData.showableAll, h1.sh, a1, Bool.and_self]
    · simp only [PyData.hasDictAll, h1.hd, a2, Bool.or_self]
    · simp only [PyData.leavesShortAll, h1.lv, a3, Bool.and_self]
    · have := h1.wt
      simp only [PyData.weightAll, List.length_cons]
      rw [Nat.add_mul]
      omega
    · have := h1.dp
      simp only [PyData.depthAll]
      omega
theorem rp_tup {k n : Nat} {ds : List PyData} (h : ∀ x ∈ ds, Rp k n x) : Rp (k + 1) (ds.length * (n + 1)) (.tuple ds) := by
  obtain ⟨a1, a2, a3, a4, a5⟩ := all_parts h
  exact ⟨by simp only [PyData.showable, a1], by simp only [PyData.hasDict, a2], by simp only [PyData.leavesShort, a3], by simp only [PyData.weight]; exact a4, by simp only [PyData.depth]; omega⟩
theorem rp_lst {k n : Nat} {ds : List PyData} (h : ∀ x ∈ ds, Rp k n x) : Rp (k + 1) (ds.length * (n + 1)) (.list ds) := by
  obtain ⟨a1, a2, a3, a4, a5⟩ := all_parts h
  exact ⟨by simp only [PyData.showable, a1], by simp only [PyData.hasDict, a2], by simp only [PyData.leavesShort, a3], by simp only [PyData.weight]; exact a4, by simp only [PyData.depth]; omega⟩
theorem rp_len {k n : Nat} {d : PyData} (r : Rp k n d) (h : n ≤ 200000) : d.shown.length ≤ sizeLine := by
  have h1 := PyData.shown_le 60 (by decide) d r.lv
  have h2 := r.wt
  have hz : sizeLine = 16777216 := sizeLine_eq
  have h3 : (60 + 2) * d.weight ≤ 62 * 200000 := Nat.mul_le_mul (by decide) (by omega)
  omega
theorem rp_df {d : Df} (h : DfB 58 d) : Rp 1 603 (dfD d) := rp_tup (ds := [.int d.1, .int d.2.1, .int d.2.2]) (n := 200) fun x hx => by
  simp only [List.mem_cons, List.not_mem_nil, or_false] at hx
  rcases hx with rfl | rfl | rfl
  · exact rp_int h.1
  · exact rp_int h.2.1
  · exact rp_int h.2.2
/-- repr of data -/
theorem b_repr {K : PySem.W.Frag} {H : Hp} {Q : VK} {a : Addr} {d : PyData} {k n : Nat} (hd : Dp K H (.ref a) d) (r : Rp k n d) (hk : k ≤ 60) (hn : n ≤ 200000) (h : Q (.str d.shown) H) : rRepr K [.ref a] H Q :=
  ⟨a, d, rfl, hd, r.sh, r.hd, Nat.le_trans r.dp hk, rp_len r hn, h⟩
end WB
namespace K23
open PySem PySem.Spec PyProof.Rows L2 Wy
/-! ### the text -/
def top (i : Nat) : Stmt := PySem.Challenge.pw_wayorring_k23_place_texts.main.body.getD i (.Pass ⟨0, 0, 0, 0⟩)
abbrev s_split_row : Stmt := top 17
abbrev n_split_row : List Str := ["text", "words", "at", "end"]
theorem sc_split_row : FnScope n_split_row ["text"] (defScope s_split_row) := C8.fnScope_by (by decide +kernel)
abbrev s_is_name : Stmt := top 18
abbrev n_is_name : List Str := ["word"]
theorem sc_is_name : FnScope n_is_name ["word"] (defScope s_is_name) := C8.fnScope_by (by decide +kernel)
abbrev s_is_number : Stmt := top 19
abbrev n_is_number : List Str := ["word"]
theorem sc_is_number : FnScope n_is_number ["word"] (defScope s_is_number) := C8.fnScope_by (by decide +kernel)
abbrev s_is_numeral : Stmt := top 20
abbrev n_is_numeral : List Str := ["word", "most"]
theorem sc_is_numeral : FnScope n_is_numeral ["word", "most"] (defScope s_is_numeral) := C8.fnScope_by (by decide +kernel)
abbrev s_word_at : Stmt := top 21
abbrev n_word_at : List Str := ["words", "at"]
theorem sc_word_at : FnScope n_word_at ["words", "at"] (defScope s_word_at) := C8.fnScope_by (by decide +kernel)
abbrev s_parts_between : Stmt := top 22
abbrev n_parts_between : List Str := ["words", "joint", "parts", "word"]
theorem sc_parts_between : FnScope n_parts_between ["words", "joint"] (defScope s_parts_between) := C8.fnScope_by (by decide +kernel)
abbrev s_word_end : Stmt := top 23
abbrev n_word_end : List Str := ["text", "at"]
theorem sc_word_end : FnScope n_word_end ["text", "at"] (defScope s_word_end) := C8.fnScope_by (by decide +kernel)
abbrev s_run_end : Stmt := top 24
abbrev n_run_end : List Str := ["text", "at", "characters"]
theorem sc_run_end : FnScope n_run_end ["text", "at", "characters"] (defScope s_run_end) := C8.fnScope_by (by decide +kernel)
abbrev s_comparison_of : Stmt := top 28
abbrev n_comparison_of : List Str := ["words"]
theorem sc_comparison_of : FnScope n_comparison_of ["words"] (defScope s_comparison_of) := C8.fnScope_by (by decide +kernel)
abbrev s_write_expression : Stmt := top 29
abbrev n_write_expression : List Str := ["expression", "_", "name", "plus", "index"]
theorem sc_write_expression : FnScope n_write_expression ["expression"] (defScope s_write_expression) := C8.fnScope_by (by decide +kernel)
abbrev s_write_condition : Stmt := top 30
abbrev n_write_condition : List Str := ["condition", "_", "sign", "left", "right", "word", "parts", "joint", "part"]
theorem sc_write_condition : FnScope n_write_condition ["condition"] (defScope s_write_condition) := C8.fnScope_by (by decide +kernel)
abbrev s_whole : Stmt := top 31
abbrev n_whole : List Str := ["taken", "words"]
theorem sc_whole : FnScope n_whole ["taken", "words"] (defScope s_whole) := C8.fnScope_by (by decide +kernel)
abbrev s_take_signed : Stmt := top 32
abbrev n_take_signed : List Str := ["words", "at"]
theorem sc_take_signed : FnScope n_take_signed ["words", "at"] (defScope s_take_signed) := C8.fnScope_by (by decide +kernel)
abbrev s_take_plus : Stmt := top 33
abbrev n_take_plus : List Str := ["words", "at", "sign", "number"]
theorem sc_take_plus : FnScope n_take_plus ["words", "at"] (defScope s_take_plus) := C8.fnScope_by (by decide +kernel)
abbrev s_take_plain : Stmt := top 34
abbrev n_take_plain : List Str := ["words", "at", "signed", "plus"]
theorem sc_take_plain : FnScope n_take_plain ["words", "at"] (defScope s_take_plain) := C8.fnScope_by (by decide +kernel)
abbrev s_take_expression : Stmt := top 35
abbrev n_take_expression : List Str := ["words", "at", "index", "plus"]
theorem sc_take_expression : FnScope n_take_expression ["words", "at"] (defScope s_take_expression) := C8.fnScope_by (by decide +kernel)
abbrev s_take_comparison : Stmt := top 36
abbrev n_take_comparison : List Str := ["words", "at", "left", "sign", "right"]
theorem sc_take_comparison : FnScope n_take_comparison ["words", "at"] (defScope s_take_comparison) := C8.fnScope_by (by decide +kernel)
abbrev s_write_plus : Stmt := top 37
abbrev n_write_plus : List Str := ["plus"]
theorem sc_write_plus : FnScope n_write_plus ["plus"] (defScope s_write_plus) := C8.fnScope_by (by decide +kernel)
abbrev s_write_below : Stmt := top 38
abbrev n_write_below : List Str := ["word", "part", "text"]
theorem sc_write_below : FnScope n_write_below ["word", "part"] (defScope s_write_below) := C8.fnScope_by (by decide +kernel)
abbrev s_read_place : Stmt := top 41
abbrev n_read_place : List Str := ["text", "words", "parts", "atoms", "part"]
theorem sc_read_place : FnScope n_read_place ["text"] (defScope s_read_place) := C8.fnScope_by (by decide +kernel)
abbrev s_write_place : Stmt := top 42
abbrev n_write_place : List Str := ["place", "atom"]
theorem sc_write_place : FnScope n_write_place ["place"] (defScope s_write_place) := C8.fnScope_by (by decide +kernel)
abbrev s_atom_of : Stmt := top 43
abbrev n_atom_of : List Str := ["words", "kind", "row", "comparison"]
theorem sc_atom_of : FnScope n_atom_of ["words"] (defScope s_atom_of) := C8.fnScope_by (by decide +kernel)
abbrev s_write_atom : Stmt := top 44
abbrev n_write_atom : List Str := ["atom", "_", "row", "sign", "left", "right", "comparison", "part"]
theorem sc_write_atom : FnScope n_write_atom ["atom"] (defScope s_write_atom) := C8.fnScope_by (by decide +kernel)
abbrev s_law_draws : Stmt := top 46
abbrev n_law_draws : List Str := ["script", "many", "cell", "rests", "draws", "k", "at", "mixed"]
theorem sc_law_draws : FnScope n_law_draws ["script", "many"] (defScope s_law_draws) := C8.fnScope_by (by decide +kernel)
abbrev s_law_take : Stmt := top 47
abbrev n_law_take : List Str := ["hand", "many", "at", "draws"]
theorem sc_law_take : FnScope n_law_take ["hand", "many"] (defScope s_law_take) := C8.fnScope_by (by decide +kernel)
abbrev s_law_wide : Stmt := top 48
abbrev n_law_wide : List Str := ["hand", "many", "first"]
theorem sc_law_wide : FnScope n_law_wide ["hand", "many"] (defScope s_law_wide) := C8.fnScope_by (by decide +kernel)
abbrev s_law_number : Stmt := top 49
abbrev n_law_number : List Str := ["hand", "size"]
theorem sc_law_number : FnScope n_law_number ["hand"] (defScope s_law_number) := C8.fnScope_by (by decide +kernel)
abbrev s_law_word : Stmt := top 50
abbrev n_law_word : List Str := ["hand", "reserved", "word", "k"]
theorem sc_law_word : FnScope n_law_word ["hand"] (defScope s_law_word) := C8.fnScope_by (by decide +kernel)
abbrev s_law_signed : Stmt := top 51
abbrev n_law_signed : List Str := ["hand"]
theorem sc_law_signed : FnScope n_law_signed ["hand"] (defScope s_law_signed) := C8.fnScope_by (by decide +kernel)
abbrev s_law_plain : Stmt := top 52
abbrev n_law_plain : List Str := ["hand"]
theorem sc_law_plain : FnScope n_law_plain ["hand"] (defScope s_law_plain) := C8.fnScope_by (by decide +kernel)
abbrev s_law_expression : Stmt := top 53
abbrev n_law_expression : List Str := ["hand"]
theorem sc_law_expression : FnScope n_law_expression ["hand"] (defScope s_law_expression) := C8.fnScope_by (by decide +kernel)
abbrev s_law_atom : Stmt := top 54
abbrev n_law_atom : List Str := ["hand", "kind", "row", "word", "sign", "left"]
theorem sc_law_atom : FnScope n_law_atom ["hand"] (defScope s_law_atom) := C8.fnScope_by (by decide +kernel)
abbrev s_law_signed_words : Stmt := top 55
abbrev n_law_signed_words : List Str := ["value"]
theorem sc_law_signed_words : FnScope n_law_signed_words ["value"] (defScope s_law_signed_words) := C8.fnScope_by (by decide +kernel)
abbrev s_law_plus_words : Stmt := top 56
abbrev n_law_plus_words : List Str := ["plus"]
theorem sc_law_plus_words : FnScope n_law_plus_words ["plus"] (defScope s_law_plus_words) := C8.fnScope_by (by decide +kernel)
abbrev s_law_words_of : Stmt := top 57
abbrev n_law_words_of : List Str := ["expression", "index", "inner"]
theorem sc_law_words_of : FnScope n_law_words_of ["expression"] (defScope s_law_words_of) := C8.fnScope_by (by decide +kernel)
abbrev s_law_atom_words : Stmt := top 58
abbrev n_law_atom_words : List Str := ["atom", "part"]
theorem sc_law_atom_words : FnScope n_law_atom_words ["atom"] (defScope s_law_atom_words) := C8.fnScope_by (by decide +kernel)
abbrev s_law_plain_text : Stmt := top 59
abbrev n_law_plain_text : List Str := ["expression", "text", "plus"]
theorem sc_law_plain_text : FnScope n_law_plain_text ["expression"] (defScope s_law_plain_text) := C8.fnScope_by (by decide +kernel)
abbrev s_law_text : Stmt := top 60
abbrev n_law_text : List Str := ["place", "texts", "atom", "text", "part"]
theorem sc_law_text : FnScope n_law_text ["place"] (defScope s_law_text) := C8.fnScope_by (by decide +kernel)
abbrev s_law_place_words : Stmt := top 61
abbrev n_law_place_words : List Str := ["place", "words", "atom"]
theorem sc_law_place_words : FnScope n_law_place_words ["place"] (defScope s_law_place_words) := C8.fnScope_by (by decide +kernel)
abbrev s_law_spaced : Stmt := top 62
abbrev n_law_spaced : List Str := ["hand", "words", "text", "last", "word", "need"]
theorem sc_law_spaced : FnScope n_law_spaced ["hand", "words"] (defScope s_law_spaced) := C8.fnScope_by (by decide +kernel)
abbrev s_law_wrong_number : Stmt := top 63
abbrev n_law_wrong_number : List Str := ["hand", "words", "places", "at", "word", "k"]
theorem sc_law_wrong_number : FnScope n_law_wrong_number ["hand", "words"] (defScope s_law_wrong_number) := C8.fnScope_by (by decide +kernel)
abbrev s_law_wrong_when : Stmt := top 64
abbrev n_law_wrong_when : List Str := ["hand", "long", "tests"]
theorem sc_law_wrong_when : FnScope n_law_wrong_when ["hand"] (defScope s_law_wrong_when) := C8.fnScope_by (by decide +kernel)
abbrev s_law_near : Stmt := top 65
abbrev n_law_near : List Str := ["hand", "words", "kind", "at", "word"]
theorem sc_law_near : FnScope n_law_near ["hand", "words"] (defScope s_law_near) := C8.fnScope_by (by decide +kernel)
abbrev s_law_refuses : Stmt := top 66
abbrev n_law_refuses : List Str := ["text", "e"]
theorem sc_law_refuses : FnScope n_law_refuses ["text"] (defScope s_law_refuses) := C8.fnScope_by (by decide +kernel)
abbrev s_law : Stmt := top 67
abbrev n_law : List Str := ["script", "hand", "place", "text", "written", "words", "near", "spaced", "actual", "k"]
theorem sc_law : FnScope n_law ["script"] (defScope s_law) := C8.fnScope_by (by decide +kernel)
abbrev c_LONG_SIGNS : List V := [.str "<=", .str ">=", .str "==", .str "!="]
abbrev c_RESERVED : List V := [.str "input", .str "from", .str "to", .str "list", .str "def", .str "let", .str "if", .str "else", .str "end", .str "while", .str "at", .str "most", .str "check", .str "refuse", .str "answer", .str "return", .str "skip", .str "and", .str "or", .str "not", .str "row", .str "yes", .str "no", .str "turn", .str "fault", .str "when", .str "then"]
abbrev c_SIGNS : List V := [.str "<", .str "<=", .str ">", .str ">=", .str "==", .str "!="]
/-! ### what the top has made -/
structure Tx (w : World) (K : PySem.W.Frag) (mg : Str → Option Value) : Prop where
  d_split_row : DefOk K mg "split_row" s_split_row
  d_is_name : DefOk K mg "is_name" s_is_name
  d_is_number : DefOk K mg "is_number" s_is_number
  d_is_numeral : DefOk K mg "is_numeral" s_is_numeral
  d_word_at : DefOk K mg "word_at" s_word_at
  d_parts_between : DefOk K mg "parts_between" s_parts_between
  d_word_end : DefOk K mg "_word_end" s_word_end
  d_run_end : DefOk K mg "_run_end" s_run_end
  d_comparison_of : DefOk K mg "comparison_of" s_comparison_of
  d_write_expression : DefOk K mg "write_expression" s_write_expression
  d_write_condition : DefOk K mg "write_condition" s_write_condition
  d_whole : DefOk K mg "_whole" s_whole
  d_take_signed : DefOk K mg "_take_signed" s_take_signed
  d_take_plus : DefOk K mg "_take_plus" s_take_plus
  d_take_plain : DefOk K mg "_take_plain" s_take_plain
  d_take_expression : DefOk K mg "_take_expression" s_take_expression
  d_take_comparison : DefOk K mg "_take_comparison" s_take_comparison
  d_write_plus : DefOk K mg "_write_plus" s_write_plus
  d_write_below : DefOk K mg "_write_below" s_write_below
  d_read_place : DefOk K mg "read_place" s_read_place
  d_write_place : DefOk K mg "write_place" s_write_place
  d_atom_of : DefOk K mg "_atom_of" s_atom_of
  d_write_atom : DefOk K mg "_write_atom" s_write_atom
  d_law_draws : DefOk K mg "_law_draws" s_law_draws
  d_law_take : DefOk K mg "_law_take" s_law_take
  d_law_wide : DefOk K mg "_law_wide" s_law_wide
  d_law_number : DefOk K mg "_law_number" s_law_number
  d_law_word : DefOk K mg "_law_word" s_law_word
  d_law_signed : DefOk K mg "_law_signed" s_law_signed
  d_law_plain : DefOk K mg "_law_plain" s_law_plain
  d_law_expression : DefOk K mg "_law_expression" s_law_expression
  d_law_atom : DefOk K mg "_law_atom" s_law_atom
  d_law_signed_words : DefOk K mg "_law_signed_words" s_law_signed_words
  d_law_plus_words : DefOk K mg "_law_plus_words" s_law_plus_words
  d_law_words_of : DefOk K mg "_law_words_of" s_law_words_of
  d_law_atom_words : DefOk K mg "_law_atom_words" s_law_atom_words
  d_law_plain_text : DefOk K mg "_law_plain_text" s_law_plain_text
  d_law_text : DefOk K mg "_law_text" s_law_text
  d_law_place_words : DefOk K mg "_law_place_words" s_law_place_words
  d_law_spaced : DefOk K mg "_law_spaced" s_law_spaced
  d_law_wrong_number : DefOk K mg "_law_wrong_number" s_law_wrong_number
  d_law_wrong_when : DefOk K mg "_law_wrong_when" s_law_wrong_when
  d_law_near : DefOk K mg "_law_near" s_law_near
  d_law_refuses : DefOk K mg "_law_refuses" s_law_refuses
  d_law : DefOk K mg "law" s_law
  g_LETTERS : ∃ u, mg "LETTERS" = some u ∧ RelV (.str "abcdefghijklmnopqrstuvwxyz") u
  g_DIGITS : ∃ u, mg "DIGITS" = some u ∧ RelV (.str "0123456789") u
  g_SHORT_SIGNS : ∃ u, mg "SHORT_SIGNS" = some u ∧ RelV (.str "<>=+-()[],:") u
  g_MOST_LETTERS : ∃ u, mg "MOST_LETTERS" = some u ∧ RelV (.int 12) u
  g_MOST_DIGITS : ∃ u, mg "MOST_DIGITS" = some u ∧ RelV (.int 10) u
  g_MOST_ATOMS : ∃ u, mg "MOST_ATOMS" = some u ∧ RelV (.int 3) u
  g_LONG_SIGNS : ∃ u, mg "LONG_SIGNS" = some u ∧ RelV (.ref (He.ga K "LONG_SIGNS")) u
  t_LONG_SIGNS : ∀ H, SqT K H (He.ga K "LONG_SIGNS") c_LONG_SIGNS
  g_RESERVED : ∃ u, mg "RESERVED" = some u ∧ RelV (.ref (He.ga K "RESERVED")) u
  t_RESERVED : ∀ H, SqT K H (He.ga K "RESERVED") c_RESERVED
  g_SIGNS : ∃ u, mg "SIGNS" = some u ∧ RelV (.ref (He.ga K "SIGNS")) u
  t_SIGNS : ∀ H, SqT K H (He.ga K "SIGNS") c_SIGNS
  g_PARENTHESES_BELOW : ∃ u, mg "PARENTHESES_BELOW" = some u ∧ RelV (.ref (He.ga K "PARENTHESES_BELOW")) u
  k_PARENTHESES_BELOW : ∃ es n, KDict K w (He.ga K "PARENTHESES_BELOW") es n
  v_PARENTHESES_BELOW_not : ∃ t, PySem.W.nsIn K (He.ga K "PARENTHESES_BELOW") "not" = some (some (.ref t)) ∧ ∀ H, SqT K H t [.str "and", .str "or"]
  v_PARENTHESES_BELOW_and : ∃ t, PySem.W.nsIn K (He.ga K "PARENTHESES_BELOW") "and" = some (some (.ref t)) ∧ ∀ H, SqT K H t [.str "and", .str "or"]
  v_PARENTHESES_BELOW_or : ∃ t, PySem.W.nsIn K (He.ga K "PARENTHESES_BELOW") "or" = some (some (.ref t)) ∧ ∀ H, SqT K H t [.str "or"]
  x_WayError : mg "WayError" = some (.ref (He.ga K "WayError"))
  x_BadLine : mg "BadLine" = some (.ref (He.ga K "BadLine"))
  x_TooLong : mg "TooLong" = some (.ref (He.ga K "TooLong"))
  x_TooWide : mg "TooWide" = some (.ref (He.ga K "TooWide"))
  x_BadPlace : mg "BadPlace" = some (.ref (He.ga K "BadPlace"))
  x_BadInput : mg "BadInput" = some (.ref (He.ga K "BadInput"))
  x_BadPair : mg "BadPair" = some (.ref (He.ga K "BadPair"))
  x_BadEdit : mg "BadEdit" = some (.ref (He.ga K "BadEdit"))
  e_BadPlace : WF.ExK K mg "BadPlace"
  u_BadPlace_WayError : WF.Ups K (.ref (He.ga K "BadPlace")) (.ref (He.ga K "WayError")) true
  u_BadPlace_BadLine : WF.Ups K (.ref (He.ga K "BadPlace")) (.ref (He.ga K "BadLine")) false
  u_BadPlace_TooLong : WF.Ups K (.ref (He.ga K "BadPlace")) (.ref (He.ga K "TooLong")) false
  u_BadPlace_TooWide : WF.Ups K (.ref (He.ga K "BadPlace")) (.ref (He.ga K "TooWide")) false
  u_BadPlace_BadPlace : WF.Ups K (.ref (He.ga K "BadPlace")) (.ref (He.ga K "BadPlace")) true
  u_BadPlace_BadInput : WF.Ups K (.ref (He.ga K "BadPlace")) (.ref (He.ga K "BadInput")) false
  u_BadPlace_BadPair : WF.Ups K (.ref (He.ga K "BadPlace")) (.ref (He.ga K "BadPair")) false
  u_BadPlace_BadEdit : WF.Ups K (.ref (He.ga K "BadPlace")) (.ref (He.ga K "BadEdit")) false
  u_BadPlace_ValueError : WF.Ups K (.ref (He.ga K "BadPlace")) (.type "ValueError") true
  z_ValueError : mg "ValueError" = none
  z_abs : mg "abs" = none
  z_int : mg "int" = none
  z_isinstance : mg "isinstance" = none
  z_len : mg "len" = none
  z_range : mg "range" = none
  z_repr : mg "repr" = none
  z_str : mg "str" = none
  z_tuple : mg "tuple" = none
/-! ### the head -/
def fn : List He.DefD := [⟨("split_row", none), "split_row", "split_row", defArgs s_split_row, defBody s_split_row, defScope s_split_row, [], []⟩, ⟨("is_name", none), "is_name", "is_name", defArgs s_is_name, defBody s_is_name, defScope s_is_name, [], []⟩, ⟨("is_number", none), "is_number", "is_number", defArgs s_is_number, defBody s_is_number, defScope s_is_number, [], []⟩, ⟨("is_numeral", none), "is_numeral", "is_numeral", defArgs s_is_numeral, defBody s_is_numeral, defScope s_is_numeral, [], []⟩, ⟨("word_at", none), "word_at", "word_at", defArgs s_word_at, defBody s_word_at, defScope s_word_at, [], []⟩, ⟨("parts_between", none), "parts_between", "parts_between", defArgs s_parts_between, defBody s_parts_between, defScope s_parts_between, [], []⟩, ⟨("_word_end", none), "_word_end", "_word_end", defArgs s_word_end, defBody s_word_end, defScope s_word_end, [], []⟩, ⟨("_run_end", none), "_run_end", "_run_end", defArgs s_run_end, defBody s_run_end, defScope s_run_end, [], []⟩, ⟨("comparison_of", none), "comparison_of", "comparison_of", defArgs s_comparison_of, defBody s_comparison_of, defScope s_comparison_of, [], []⟩, ⟨("write_expression", none), "write_expression", "write_expression", defArgs s_write_expression, defBody s_write_expression, defScope s_write_expression, [], []⟩, ⟨("write_condition", none), "write_condition", "write_condition", defArgs s_write_condition, defBody s_write_condition, defScope s_write_condition, [], []⟩, ⟨("_whole", none), "_whole", "_whole", defArgs s_whole, defBody s_whole, defScope s_whole, [], []⟩, ⟨("_take_signed", none), "_take_signed", "_take_signed", defArgs s_take_signed, defBody s_take_signed, defScope s_take_signed, [], []⟩, ⟨("_take_plus", none), "_take_plus", "_take_plus", defArgs s_take_plus, defBody s_take_plus, defScope s_take_plus, [], []⟩, ⟨("_take_plain", none), "_take_plain", "_take_plain", defArgs s_take_plain, defBody s_take_plain, defScope s_take_plain, [], []⟩, ⟨("_take_expression", none), "_take_expression", "_take_expression", defArgs s_take_expression, defBody s_take_expression, defScope s_take_expression, [], []⟩, ⟨("_take_comparison", none), "_take_comparison", "_take_comparison", defArgs s_take_comparison, defBody s_take_comparison, defScope s_take_comparison, [], []⟩, ⟨("_write_plus", none), "_write_plus", "_write_plus", defArgs s_write_plus, defBody s_write_plus, defScope s_write_plus, [], []⟩, ⟨("_write_below", none), "_write_below", "_write_below", defArgs s_write_below, defBody s_write_below, defScope s_write_below, [], []⟩, ⟨("read_place", none), "read_place", "read_place", defArgs s_read_place, defBody s_read_place, defScope s_read_place, [], []⟩, ⟨("write_place", none), "write_place", "write_place", defArgs s_write_place, defBody s_write_place, defScope s_write_place, [], []⟩, ⟨("_atom_of", none), "_atom_of", "_atom_of", defArgs s_atom_of, defBody s_atom_of, defScope s_atom_of, [], []⟩, ⟨("_write_atom", none), "_write_atom", "_write_atom", defArgs s_write_atom, defBody s_write_atom, defScope s_write_atom, [], []⟩, ⟨("_law_draws", none), "_law_draws", "_law_draws", defArgs s_law_draws, defBody s_law_draws, defScope s_law_draws, [], []⟩, ⟨("_law_take", none), "_law_take", "_law_take", defArgs s_law_take, defBody s_law_take, defScope s_law_take, [], []⟩, ⟨("_law_wide", none), "_law_wide", "_law_wide", defArgs s_law_wide, defBody s_law_wide, defScope s_law_wide, [], []⟩, ⟨("_law_number", none), "_law_number", "_law_number", defArgs s_law_number, defBody s_law_number, defScope s_law_number, [], []⟩, ⟨("_law_word", none), "_law_word", "_law_word", defArgs s_law_word, defBody s_law_word, defScope s_law_word, [], []⟩, ⟨("_law_signed", none), "_law_signed", "_law_signed", defArgs s_law_signed, defBody s_law_signed, defScope s_law_signed, [], []⟩, ⟨("_law_plain", none), "_law_plain", "_law_plain", defArgs s_law_plain, defBody s_law_plain, defScope s_law_plain, [], []⟩, ⟨("_law_expression", none), "_law_expression", "_law_expression", defArgs s_law_expression, defBody s_law_expression, defScope s_law_expression, [], []⟩, ⟨("_law_atom", none), "_law_atom", "_law_atom", defArgs s_law_atom, defBody s_law_atom, defScope s_law_atom, [], []⟩, ⟨("_law_signed_words", none), "_law_signed_words", "_law_signed_words", defArgs s_law_signed_words, defBody s_law_signed_words, defScope s_law_signed_words, [], []⟩, ⟨("_law_plus_words", none), "_law_plus_words", "_law_plus_words", defArgs s_law_plus_words, defBody s_law_plus_words, defScope s_law_plus_words, [], []⟩, ⟨("_law_words_of", none), "_law_words_of", "_law_words_of", defArgs s_law_words_of, defBody s_law_words_of, defScope s_law_words_of, [], []⟩, ⟨("_law_atom_words", none), "_law_atom_words", "_law_atom_words", defArgs s_law_atom_words, defBody s_law_atom_words, defScope s_law_atom_words, [], []⟩, ⟨("_law_plain_text", none), "_law_plain_text", "_law_plain_text", defArgs s_law_plain_text, defBody s_law_plain_text, defScope s_law_plain_text, [], []⟩, ⟨("_law_text", none), "_law_text", "_law_text", defArgs s_law_text, defBody s_law_text, defScope s_law_text, [], []⟩, ⟨("_law_place_words", none), "_law_place_words", "_law_place_words", defArgs s_law_place_words, defBody s_law_place_words, defScope s_law_place_words, [], []⟩, ⟨("_law_spaced", none), "_law_spaced", "_law_spaced", defArgs s_law_spaced, defBody s_law_spaced, defScope s_law_spaced, [], []⟩, ⟨("_law_wrong_number", none), "_law_wrong_number", "_law_wrong_number", defArgs s_law_wrong_number, defBody s_law_wrong_number, defScope s_law_wrong_number, [], []⟩, ⟨("_law_wrong_when", none), "_law_wrong_when", "_law_wrong_when", defArgs s_law_wrong_when, defBody s_law_wrong_when, defScope s_law_wrong_when, [], []⟩, ⟨("_law_near", none), "_law_near", "_law_near", defArgs s_law_near, defBody s_law_near, defScope s_law_near, [], []⟩, ⟨("_law_refuses", none), "_law_refuses", "_law_refuses", defArgs s_law_refuses, defBody s_law_refuses, defScope s_law_refuses, [], []⟩, ⟨("law", none), "law", "law", defArgs s_law, defBody s_law, defScope s_law, [], []⟩]
def fa : List He.Fa := [.glo "split_row", .glo "is_name", .glo "is_number", .glo "is_numeral", .glo "word_at", .glo "parts_between", .glo "_word_end", .glo "_run_end", .glo "comparison_of", .glo "write_expression", .glo "write_condition", .glo "_whole", .glo "_take_signed", .glo "_take_plus", .glo "_take_plain", .glo "_take_expression", .glo "_take_comparison", .glo "_write_plus", .glo "_write_below", .glo "read_place", .glo "write_place", .glo "_atom_of", .glo "_write_atom", .glo "_law_draws", .glo "_law_take", .glo "_law_wide", .glo "_law_number", .glo "_law_word", .glo "_law_signed", .glo "_law_plain", .glo "_law_expression", .glo "_law_atom", .glo "_law_signed_words", .glo "_law_plus_words", .glo "_law_words_of", .glo "_law_atom_words", .glo "_law_plain_text", .glo "_law_text", .glo "_law_place_words", .glo "_law_spaced", .glo "_law_wrong_number", .glo "_law_wrong_when", .glo "_law_near", .glo "_law_refuses", .glo "law", .str "LETTERS" "abcdefghijklmnopqrstuvwxyz", .str "DIGITS" "0123456789", .str "SHORT_SIGNS" "<>=+-()[],:", .int "MOST_LETTERS" 12, .int "MOST_DIGITS" 10, .int "MOST_ATOMS" 3, .glo "LONG_SIGNS", .glo "RESERVED", .glo "SIGNS", .glo "PARENTHESES_BELOW", .free "ValueError", .free "abs", .free "int", .free "isinstance", .free "len", .free "range", .free "repr", .free "str", .free "tuple", .glo "WayError", .glo "BadLine", .glo "TooLong", .glo "TooWide", .glo "BadPlace", .glo "BadInput", .glo "BadPair", .glo "BadEdit"]
def ts : List He.Tab := [(fun K => He.ga K "PARENTHESES_BELOW", ["not", "and", "or"])]
def ex (K : PySem.W.Frag) : Bool := He.tupB K "LONG_SIGNS" [.str "<=", .str ">=", .str "==", .str "!="] && He.tupB K "RESERVED" [.str "input", .str "from", .str "to", .str "list", .str "def", .str "let", .str "if", .str "else", .str "end", .str "while", .str "at", .str "most", .str "check", .str "refuse", .str "answer", .str "return", .str "skip", .str "and", .str "or", .str "not", .str "row", .str "yes", .str "no", .str "turn", .str "fault", .str "when", .str "then"] && He.tupB K "SIGNS" [.str "<", .str "<=", .str ">", .str ">=", .str "==", .str "!="] && W6.keyB K (He.ga K "PARENTHESES_BELOW") "not" [.str "and", .str "or"] && W6.keyB K (He.ga K "PARENTHESES_BELOW") "and" [.str "and", .str "or"] && W6.keyB K (He.ga K "PARENTHESES_BELOW") "or" [.str "or"] && WF.exB K "BadPlace" && WF.upsB K (.ref (He.ga K "BadPlace")) (.ref (He.ga K "WayError")) true && WF.upsB K (.ref (He.ga K "BadPlace")) (.ref (He.ga K "BadLine")) false && WF.upsB K (.ref (He.ga K "BadPlace")) (.ref (He.ga K "TooLong")) false && WF.upsB K (.ref (He.ga K "BadPlace")) (.ref (He.ga K "TooWide")) false && WF.upsB K (.ref (He.ga K "BadPlace")) (.ref (He.ga K "BadPlace")) true && WF.upsB K (.ref (He.ga K "BadPlace")) (.ref (He.ga K "BadInput")) false && WF.upsB K (.ref (He.ga K "BadPlace")) (.ref (He.ga K "BadPair")) false && WF.upsB K (.ref (He.ga K "BadPlace")) (.ref (He.ga K "BadEdit")) false && WF.upsB K (.ref (He.ga K "BadPlace")) (.type "ValueError") true
def tf : List He.Defn := []
abbrev R : PySem.W.OpenRow := PySem.W.OpenLaw.row PySem.Challenge.rw_wayorring_k23_place_texts
abbrev hk : PySem.W.Hook := He.hookX 4 fa fn ts tf ex
def ob (s : PySem.W.SharedT) : He.AlX := He.obsX 4 fa fn ts tf ex (HandSHeadRun.getT s)
theorem ob_eq (s : PySem.W.SharedT) : ob s = hk.obs s.abs := He.obsX_eq (HandSHeadRun.getT_eq s)
def loose : List Str := (["WayError", "BadLine", "TooLong", "TooWide", "BadPlace", "BadInput", "BadPair", "BadEdit", "LETTERS", "DIGITS", "LONG_SIGNS", "SHORT_SIGNS", "RESERVED", "MOST_LETTERS", "MOST_DIGITS", "split_row", "is_name", "is_number", "is_numeral", "word_at", "parts_between", "_word_end", "_run_end", "SIGNS", "PARENTHESES_BELOW", "comparison_of", "write_expression", "write_condition", "_whole", "_take_signed"] : List Str) ++ (["_take_plus", "_take_plain", "_take_expression", "_take_comparison", "_write_plus", "_write_below", "MOST_ATOMS", "read_place", "write_place", "_atom_of", "_write_atom", "_law_draws", "_law_take", "_law_wide", "_law_number", "_law_word", "_law_signed", "_law_plain", "_law_expression", "_law_atom", "_law_signed_words", "_law_plus_words", "_law_words_of", "_law_atom_words", "_law_plain_text", "_law_text", "_law_place_words", "_law_spaced", "_law_wrong_number", "_law_wrong_when"] : List Str) ++ (["_law_near", "_law_refuses"] : List Str)
set_option maxHeartbeats 0 in
theorem run (w : World) : HandSHeadRun.RunEq R (PySem.W.view R.prog [67]) hk ob 20000 loose w :=
  PySem.W.byRow2 "special-get-raises" (P := fun w => HandSHeadRun.RunEq R (PySem.W.view R.prog [67]) hk ob 20000 loose w) (fun w os => by kernel_rfl) (fun w os => by kernel_rfl) w
theorem tx_of {w : World} {K : PySem.W.Frag} {h h2 : Heap} {mg : Str → Option Value} (X : K.In h) (G : h.Ns mainGlobals mg) (c2 : He.SaysX fa fn ts tf ex w h2 K) : Tx w K mg := by
  have c := c2.t.d
  have m : ex K = true := c2.more
  unfold ex at m
  obtain ⟨l15, m15⟩ := He.ba m
  obtain ⟨l14, m14⟩ := He.ba l15
  obtain ⟨l13, m13⟩ := He.ba l14
  obtain ⟨l12, m12⟩ := He.ba l13
  obtain ⟨l11, m11⟩ := He.ba l12
  obtain ⟨l10, m10⟩ := He.ba l11
  obtain ⟨l9, m9⟩ := He.ba l10
  obtain ⟨l8, m8⟩ := He.ba l9
  obtain ⟨l7, m7⟩ := He.ba l8
  obtain ⟨l6, m6⟩ := He.ba l7
  obtain ⟨l5, m5⟩ := He.ba l6
  obtain ⟨l4, m4⟩ := He.ba l5
  obtain ⟨l3, m3⟩ := He.ba l4
  obtain ⟨l2, m2⟩ := He.ba l3
  obtain ⟨l1, m1⟩ := He.ba l2
  refine ⟨?_, ?_, ?_, ?_, ?_, ?_, ?_, ?_, ?_, ?_, ?_, ?_, ?_, ?_, ?_, ?_, ?_, ?_, ?_, ?_, ?_, ?_, ?_, ?_, ?_, ?_, ?_, ?_, ?_, ?_, ?_, ?_, ?_, ?_, ?_, ?_, ?_, ?_, ?_, ?_, ?_, ?_, ?_, ?_, ?_, ?_, ?_, ?_, ?_, ?_, ?_, ?_, ?_, ?_, ?_, ?_, ?_, ?_, ?_, ?_, ?_, ?_, ?_, ?_, ?_, ?_, ?_, ?_, ?_, ?_, ?_, ?_, ?_, ?_, ?_, ?_, ?_, ?_, ?_, ?_, ?_, ?_, ?_, ?_, ?_, ?_, ?_, ?_, ?_⟩
  · obtain ⟨fd, F⟩ := c.def_ 0 rfl
    exact ⟨_, fd, F, He.glo_ok X G (c.fact 0 (f := .glo "split_row") rfl)⟩
  · obtain ⟨fd, F⟩ := c.def_ 1 rfl
    exact ⟨_, fd, F, He.glo_ok X G (c.fact 1 (f := .glo "is_name") rfl)⟩
  · obtain ⟨fd, F⟩ := c.def_ 2 rfl
    exact ⟨_, fd, F, He.glo_ok X G (c.fact 2 (f := .glo "is_number") rfl)⟩
  · obtain ⟨fd, F⟩ := c.def_ 3 rfl
    exact ⟨_, fd, F, He.glo_ok X G (c.fact 3 (f := .glo "is_numeral") rfl)⟩
  · obtain ⟨fd, F⟩ := c.def_ 4 rfl
    exact ⟨_, fd, F, He.glo_ok X G (c.fact 4 (f := .glo "word_at") rfl)⟩
  · obtain ⟨fd, F⟩ := c.def_ 5 rfl
    exact ⟨_, fd, F, He.glo_ok X G (c.fact 5 (f := .glo "parts_between") rfl)⟩
  · obtain ⟨fd, F⟩ := c.def_ 6 rfl
    exact ⟨_, fd, F, He.glo_ok X G (c.fact 6 (f := .glo "_word_end") rfl)⟩
  · obtain ⟨fd, F⟩ := c.def_ 7 rfl
    exact ⟨_, fd, F, He.glo_ok X G (c.fact 7 (f := .glo "_run_end") rfl)⟩
  · obtain ⟨fd, F⟩ := c.def_ 8 rfl
    exact ⟨_, fd, F, He.glo_ok X G (c.fact 8 (f := .glo "comparison_of") rfl)⟩
  · obtain ⟨fd, F⟩ := c.def_ 9 rfl
    exact ⟨_, fd, F, He.glo_ok X G (c.fact 9 (f := .glo "write_expression") rfl)⟩
  · obtain ⟨fd, F⟩ := c.def_ 10 rfl
    exact ⟨_, fd, F, He.glo_ok X G (c.fact 10 (f := .glo "write_condition") rfl)⟩
  · obtain ⟨fd, F⟩ := c.def_ 11 rfl
    exact ⟨_, fd, F, He.glo_ok X G (c.fact 11 (f := .glo "_whole") rfl)⟩
  · obtain ⟨fd, F⟩ := c.def_ 12 rfl
    exact ⟨_, fd, F, He.glo_ok X G (c.fact 12 (f := .glo "_take_signed") rfl)⟩
  · obtain ⟨fd, F⟩ := c.def_ 13 rfl
    exact ⟨_, fd, F, He.glo_ok X G (c.fact 13 (f := .glo "_take_plus") rfl)⟩
  · obtain ⟨fd, F⟩ := c.def_ 14 rfl
    exact ⟨_, fd, F, He.glo_ok X G (c.fact 14 (f := .glo "_take_plain") rfl)⟩
  · obtain ⟨fd, F⟩ := c.def_ 15 rfl
    exact ⟨_, fd, F, He.glo_ok X G (c.fact 15 (f := .glo "_take_expression") rfl)⟩
  · obtain ⟨fd, F⟩ := c.def_ 16 rfl
    exact ⟨_, fd, F, He.glo_ok X G (c.fact 16 (f := .glo "_take_comparison") rfl)⟩
  · obtain ⟨fd, F⟩ := c.def_ 17 rfl
    exact ⟨_, fd, F, He.glo_ok X G (c.fact 17 (f := .glo "_write_plus") rfl)⟩
  · obtain ⟨fd, F⟩ := c.def_ 18 rfl
    exact ⟨_, fd, F, He.glo_ok X G (c.fact 18 (f := .glo "_write_below") rfl)⟩
  · obtain ⟨fd, F⟩ := c.def_ 19 rfl
    exact ⟨_, fd, F, He.glo_ok X G (c.fact 19 (f := .glo "read_place") rfl)⟩
  · obtain ⟨fd, F⟩ := c.def_ 20 rfl
    exact ⟨_, fd, F, He.glo_ok X G (c.fact 20 (f := .glo "write_place") rfl)⟩
  · obtain ⟨fd, F⟩ := c.def_ 21 rfl
    exact ⟨_, fd, F, He.glo_ok X G (c.fact 21 (f := .glo "_atom_of") rfl)⟩
  · obtain ⟨fd, F⟩ := c.def_ 22 rfl
    exact ⟨_, fd, F, He.glo_ok X G (c.fact 22 (f := .glo "_write_atom") rfl)⟩
  · obtain ⟨fd, F⟩ := c.def_ 23 rfl
    exact ⟨_, fd, F, He.glo_ok X G (c.fact 23 (f := .glo "_law_draws") rfl)⟩
  · obtain ⟨fd, F⟩ := c.def_ 24 rfl
    exact ⟨_, fd, F, He.glo_ok X G (c.fact 24 (f := .glo "_law_take") rfl)⟩
  · obtain ⟨fd, F⟩ := c.def_ 25 rfl
    exact ⟨_, fd, F, He.glo_ok X G (c.fact 25 (f := .glo "_law_wide") rfl)⟩
  · obtain ⟨fd, F⟩ := c.def_ 26 rfl
    exact ⟨_, fd, F, He.glo_ok X G (c.fact 26 (f := .glo "_law_number") rfl)⟩
  · obtain ⟨fd, F⟩ := c.def_ 27 rfl
    exact ⟨_, fd, F, He.glo_ok X G (c.fact 27 (f := .glo "_law_word") rfl)⟩
  · obtain ⟨fd, F⟩ := c.def_ 28 rfl
    exact ⟨_, fd, F, He.glo_ok X G (c.fact 28 (f := .glo "_law_signed") rfl)⟩
  · obtain ⟨fd, F⟩ := c.def_ 29 rfl
    exact ⟨_, fd, F, He.glo_ok X G (c.fact 29 (f := .glo "_law_plain") rfl)⟩
  · obtain ⟨fd, F⟩ := c.def_ 30 rfl
    exact ⟨_, fd, F, He.glo_ok X G (c.fact 30 (f := .glo "_law_expression") rfl)⟩
  · obtain ⟨fd, F⟩ := c.def_ 31 rfl
    exact ⟨_, fd, F, He.glo_ok X G (c.fact 31 (f := .glo "_law_atom") rfl)⟩
  · obtain ⟨fd, F⟩ := c.def_ 32 rfl
    exact ⟨_, fd, F, He.glo_ok X G (c.fact 32 (f := .glo "_law_signed_words") rfl)⟩
  · obtain ⟨fd, F⟩ := c.def_ 33 rfl
    exact ⟨_, fd, F, He.glo_ok X G (c.fact 33 (f := .glo "_law_plus_words") rfl)⟩
  · obtain ⟨fd, F⟩ := c.def_ 34 rfl
    exact ⟨_, fd, F, He.glo_ok X G (c.fact 34 (f := .glo "_law_words_of") rfl)⟩
  · obtain ⟨fd, F⟩ := c.def_ 35 rfl
    exact ⟨_, fd, F, He.glo_ok X G (c.fact 35 (f := .glo "_law_atom_words") rfl)⟩
  · obtain ⟨fd, F⟩ := c.def_ 36 rfl
    exact ⟨_, fd, F, He.glo_ok X G (c.fact 36 (f := .glo "_law_plain_text") rfl)⟩
  · obtain ⟨fd, F⟩ := c.def_ 37 rfl
    exact ⟨_, fd, F, He.glo_ok X G (c.fact 37 (f := .glo "_law_text") rfl)⟩
  · obtain ⟨fd, F⟩ := c.def_ 38 rfl
    exact ⟨_, fd, F, He.glo_ok X G (c.fact 38 (f := .glo "_law_place_words") rfl)⟩
  · obtain ⟨fd, F⟩ := c.def_ 39 rfl
    exact ⟨_, fd, F, He.glo_ok X G (c.fact 39 (f := .glo "_law_spaced") rfl)⟩
  · obtain ⟨fd, F⟩ := c.def_ 40 rfl
    exact ⟨_, fd, F, He.glo_ok X G (c.fact 40 (f := .glo "_law_wrong_number") rfl)⟩
  · obtain ⟨fd, F⟩ := c.def_ 41 rfl
    exact ⟨_, fd, F, He.glo_ok X G (c.fact 41 (f := .glo "_law_wrong_when") rfl)⟩
  · obtain ⟨fd, F⟩ := c.def_ 42 rfl
    exact ⟨_, fd, F, He.glo_ok X G (c.fact 42 (f := .glo "_law_near") rfl)⟩
  · obtain ⟨fd, F⟩ := c.def_ 43 rfl
    exact ⟨_, fd, F, He.glo_ok X G (c.fact 43 (f := .glo "_law_refuses") rfl)⟩
  · obtain ⟨fd, F⟩ := c.def_ 44 rfl
    exact ⟨_, fd, F, He.glo_ok X G (c.fact 44 (f := .glo "law") rfl)⟩
  · obtain ⟨t, e⟩ := He.str_ok X G (c.fact 45 (f := .str "LETTERS" "abcdefghijklmnopqrstuvwxyz") rfl)
    exact ⟨_, e, t, rfl⟩
  · obtain ⟨t, e⟩ := He.str_ok X G (c.fact 46 (f := .str "DIGITS" "0123456789") rfl)
    exact ⟨_, e, t, rfl⟩
  · obtain ⟨t, e⟩ := He.str_ok X G (c.fact 47 (f := .str "SHORT_SIGNS" "<>=+-()[],:") rfl)
    exact ⟨_, e, t, rfl⟩
  · obtain ⟨t, e⟩ := He.int_ok X G (c.fact 48 (f := .int "MOST_LETTERS" 12) rfl)
    exact ⟨_, e, t, rfl⟩
  · obtain ⟨t, e⟩ := He.int_ok X G (c.fact 49 (f := .int "MOST_DIGITS" 10) rfl)
    exact ⟨_, e, t, rfl⟩
  · obtain ⟨t, e⟩ := He.int_ok X G (c.fact 50 (f := .int "MOST_ATOMS" 3) rfl)
    exact ⟨_, e, t, rfl⟩
  · exact ⟨_, He.glo_ok X G (c.fact 51 (f := .glo "LONG_SIGNS") rfl), rfl⟩
  · exact He.tupB_ok l1
  · exact ⟨_, He.glo_ok X G (c.fact 52 (f := .glo "RESERVED") rfl), rfl⟩
  · exact He.tupB_ok m1
  · exact ⟨_, He.glo_ok X G (c.fact 53 (f := .glo "SIGNS") rfl), rfl⟩
  · exact He.tupB_ok m2
  · exact ⟨_, He.glo_ok X G (c.fact 54 (f := .glo "PARENTHESES_BELOW") rfl), rfl⟩
  · exact c2.t.tab 0 rfl
  · exact W6.keyB_ok m3
  · exact W6.keyB_ok m4
  · exact W6.keyB_ok m5
  · exact He.glo_ok X G (c.fact 64 (f := .glo "WayError") rfl)
  · exact He.glo_ok X G (c.fact 65 (f := .glo "BadLine") rfl)
  · exact He.glo_ok X G (c.fact 66 (f := .glo "TooLong") rfl)
  · exact He.glo_ok X G (c.fact 67 (f := .glo "TooWide") rfl)
  · exact He.glo_ok X G (c.fact 68 (f := .glo "BadPlace") rfl)
  · exact He.glo_ok X G (c.fact 69 (f := .glo "BadInput") rfl)
  · exact He.glo_ok X G (c.fact 70 (f := .glo "BadPair") rfl)
  · exact He.glo_ok X G (c.fact 71 (f := .glo "BadEdit") rfl)
  · exact WF.exB_ok (He.glo_ok X G (c.fact 68 (f := .glo "BadPlace") rfl)) m6
  · exact WF.upsB_ok m7
  · exact WF.upsB_ok m8
  · exact WF.upsB_ok m9
  · exact WF.upsB_ok m10
  · exact WF.upsB_ok m11
  · exact WF.upsB_ok m12
  · exact WF.upsB_ok m13
  · exact WF.upsB_ok m14
  · exact WF.upsB_ok m15
  · exact He.free_ok X G (c.fact 55 (f := .free "ValueError") rfl)
  · exact He.free_ok X G (c.fact 56 (f := .free "abs") rfl)
  · exact He.free_ok X G (c.fact 57 (f := .free "int") rfl)
  · exact He.free_ok X G (c.fact 58 (f := .free "isinstance") rfl)
  · exact He.free_ok X G (c.fact 59 (f := .free "len") rfl)
  · exact He.free_ok X G (c.fact 60 (f := .free "range") rfl)
  · exact He.free_ok X G (c.fact 61 (f := .free "repr") rfl)
  · exact He.free_ok X G (c.fact 62 (f := .free "str") rfl)
  · exact He.free_ok X G (c.fact 63 (f := .free "tuple") rfl)
def spLaw (K : PySem.W.Frag) : Sp := fun vs H Q _ => ∃ (a : Addr) (ns : List Int), vs = [.ref a] ∧ SqL K H a (ns.map V.int) ∧ ns.length ≤ 63 ∧ ∀ H', Q (.bl true) H'
end K23
namespace K23
open PySem PySem.Spec PyProof.Rows L2 Wy WM

section
variable {P : Program} {w : World} {K : PySem.W.Frag} {mg : Str → Option Value} {base : Heap}
/-! ### the program -/
def spRunEnd : Sp := fun vs H Q _ => ∃ (z p : Str) (i : Nat), vs = [.str z, .int i, .str p] ∧ z.length ≤ 1000000 ∧ i ≤ z.length ∧ Q (.int (runEnd (tl z) (tl p) i : Nat)) H
theorem k_run_end (T : Tx w K mg) : C8.Cal P w K mg base 1 "_run_end" spRunEnd [] := by
  refine cal_of (N := n_run_end) T.d_run_end sc_run_end (fun _ _ F => F.bindsN fun _ _ _ _ _ _ us hl => match us, hl with | [_, _, _], _ => rfl) (fun vs H Q E h => ?_) (fun f cdv A outer s H vs Q E hr h => ?_)
  · obtain ⟨z, p, i, rfl, _⟩ := h
    rfl
  · obtain ⟨z, p, i, rfl, hz, hi, q⟩ := h
    have hz2 : z.length ≤ sizeLine := Nat.le_of_lt (Nat.lt_of_le_of_lt hz (by decide))
    refine ⟨_, (pss_cons (ps_while PassesOwn.never (PW.pt (pw_and (pt_cmpR op_lt (pv 1) (pe_callB (call_len2 : CallR _ _ (rLn K)) (by rfl) T.z_len (by decide +kernel) (pa_cons (pv 0) pa_nil)) (nomark _)) (pw_and1 (pt_cmpR (op_in2 : OpR _ _ (rIn2 K)) (pe_ix (ix_seq : IxR _ (rIx K)) (pv 0) (pv 1) (fun _ _ => rfl)) (pv 2) (by rfl))))) (pss_one (ps_aug (i := 1) sc_run_end.nd rfl (Or.inl rfl) pe_int ip_add))) (pss_one (ps_ret (pv 1)))), ?_⟩
    walk_at "ss"
    refine s_while (fun m σ H' => H' = H ∧ ∃ j : Nat, m = z.length - j ∧ j ≤ z.length ∧ runEnd (tl z) (tl p) j = runEnd (tl z) (tl p) i ∧ σ = [some (.str z), some (.int j), some (.str p)]) (z.length - i) ⟨rfl, i, rfl, hi, rfl, rfl⟩ fun m σ H' hW => ?_
    obtain ⟨rfl, j, rfl, hj, er, rfl⟩ := hW
    walk_at "ss"
    refine b_lenS hz2 ?_
    walk_at "ss"
    refine ite2 (fun e => ?_) (fun e => ?_)
    · have e := of_decide_eq_true e
      obtain ⟨c, g1, g2⟩ := atI_cps (z := z) (i := j) (by omega)
      walk_at "ss"
      refine o_ixS hz2 g2 ?_
      walk_at "ss"
      refine ite2 (fun e2 => ?_) (fun e2 => ?_)
      · have e2 := of_decide_eq_true e2
        refine k_while ?_
        walk_at "ss"
        exact ⟨_, by omega, rfl, j + 1, rfl, by omega, by rw [← er]; exact (runEnd_yes g1 e2).symm, rfl⟩
      · have e2 := of_decide_eq_false (Bool.eq_false_iff.mpr e2)
        walk_at "ss"
        rw [← er, runEnd_no g1 e2] at q
        exact q
    · have e := of_decide_eq_false (Bool.eq_false_iff.mpr e)
      refine iteF ?_
      walk_at "ss"
      rw [← er, runEnd_out (by rw [← str_len]; omega)] at q
      exact q
def spWordEnd : Sp := fun vs H Q _ => ∃ (z : Str) (i c : Nat), vs = [.str z, .int i] ∧ z.length ≤ 1000000 ∧ (tl z)[i]? = some c ∧ Q (.int (wordEnd z i c : Nat)) H
theorem k_word_end (T : Tx w K mg) : C8.Cal P w K mg base 2 "_word_end" spWordEnd [] := by
  refine cal_of (N := n_word_end) T.d_word_end sc_word_end (fun _ _ F => F.bindsN fun _ _ _ _ _ _ us hl => match us, hl with | [_, _], _ => rfl) (fun vs H Q E h => ?_) (fun f cdv A outer s H vs Q E hr h => ?_)
  · obtain ⟨z, i, c, rfl, _⟩ := h
    rfl
  · obtain ⟨z, i, c, rfl, hz, g1, q⟩ := h
    have hz2 : z.length ≤ sizeLine := Nat.le_of_lt (Nat.lt_of_le_of_lt hz (by decide))
    have hi : i < z.length := by
      rw [str_len]
      exact (List.getElem?_eq_some_iff.mp g1).1
    have g2 : atI z.cps.toList (i : Int) = some c := atI_nat g1
    unfold wordEnd at q
    refine ⟨_, (pss_cons (ps_if (pt_cmpR (op_in2 : OpR _ _ (rIn2 K)) (pe_ix (ix_seq : IxR _ (rIx K)) (pv 0) (pv 1) (fun _ _ => rfl)) (C8.pe_gc (by rfl) T.g_LETTERS) (by rfl)) (pss_one (ps_ret (C8.pe_c (k_run_end T) hr (by first | decide | omega) (by rfl) (pa_cons (pv 0) (pa_cons (pv 1) (pa_cons (C8.pe_gc (by rfl) T.g_LETTERS) pa_nil)))))) pss_nil) (pss_cons (ps_if (pt_cmpR (op_in2 : OpR _ _ (rIn2 K)) (pe_ix (ix_seq : IxR _ (rIx K)) (pv 0) (pv 1) (fun _ _ => rfl)) (C8.pe_gc (by rfl) T.g_DIGITS) (by rfl)) (pss_one (ps_ret (C8.pe_c (k_run_end T) hr (by first | decide | omega) (by rfl) (pa_cons (pv 0) (pa_cons (pv 1) (pa_cons (C8.pe_gc (by rfl) T.g_DIGITS) pa_nil)))))) pss_nil) (pss_cons (ps_if (pt_cmpR (op_in2 : OpR _ _ (rIn2 K)) (pe_slice (sl_2 : SlR _ (rSl2 K)) (pv 0) (po_some (pv 1)) (po_some (pe_op op_add3 (pv 1) pe_int))) (C8.pe_gc (by rfl) T.g_LONG_SIGNS) (by rfl)) (pss_one (ps_ret (pe_op op_add3 (pv 1) pe_int))) pss_nil) (pss_cons (ps_if (pt_cmpR (op_in2 : OpR _ _ (rIn2 K)) (pe_ix (ix_seq : IxR _ (rIx K)) (pv 0) (pv 1) (fun _ _ => rfl)) (C8.pe_gc (by rfl) T.g_SHORT_SIGNS) (by rfl)) (pss_one (ps_ret (pe_op op_add3 (pv 1) pe_int))) pss_nil) (pss_one (ps_ret (pv 1))))))), ?_⟩
    walk_at "ss"
    refine o_ixS hz2 g2 ?_
    walk_at "ss"
    refine ite2 (fun e => ?_) (fun e => ?_)
    · have e := of_decide_eq_true e
      rw [if_pos e] at q
      walk_at "ss"
      exact ⟨z, LET, i, rfl, hz, Nat.le_of_lt hi, q⟩
    · have e := of_decide_eq_false (Bool.eq_false_iff.mpr e)
      rw [if_neg e] at q
      walk_at "ss"
      refine o_ixS hz2 g2 ?_
      walk_at "ss"
      refine ite2 (fun e => ?_) (fun e => ?_)
      · have e := of_decide_eq_true e
        rw [if_pos e] at q
        walk_at "ss"
        exact ⟨z, DIG, i, rfl, hz, Nat.le_of_lt hi, q⟩
      · have e := of_decide_eq_false (Bool.eq_false_iff.mpr e)
        rw [if_neg e] at q
        walk_at "ss"
        refine l_S hz2 ?_
        walk_at "ss"
        refine o_inT (T.t_LONG_SIGNS _) rfl (by decide +kernel) ?_
        walk_at "ss"
        refine ite2 (fun e => ?_) (fun e => ?_)
        · have e : pairAt z i = true := e
          rw [if_pos e] at q
          walk_at "ss"
          exact q
        · have e : ¬ pairAt z i = true := e
          rw [if_neg e] at q
          walk_at "ss"
          refine o_ixS hz2 g2 ?_
          walk_at "ss"
          refine ite2 (fun e => ?_) (fun e => ?_)
          · have e := of_decide_eq_true e
            rw [if_pos e] at q
            walk_at "ss"
            exact q
          · have e := of_decide_eq_false (Bool.eq_false_iff.mpr e)
            rw [if_neg e] at q
            walk_at "ss"
            exact q
/-- what a list of words, or None, looks like -/
def WordsV (H : Hp) (v : V) (o : Option (List Str)) : Prop := match o with
  | none => v = .non
  | some ws => ∃ p, v = .ref p ∧ H p = some (.lst (ws.map V.str))
/-- what a new list of words, or None, looks like -/
def NewWords (H0 H : Hp) (v : V) (o : Option (List Str)) : Prop := match o with
  | none => v = .non
  | some ws => ∃ p, v = .ref p ∧ H0 p = none ∧ H p = some (.lst (ws.map V.str))
def spSplit : Sp := fun vs H Q _ => ∃ (z : Str), vs = [.str z] ∧ z.length ≤ 1000000 ∧ ∀ v H', Same H H' → NewWords H H' v (wordsW z) → Q v H'
theorem k_split_row (T : Tx w K mg) : C8.Cal P w K mg base 3 "split_row" spSplit [] := by
  refine cal_of (N := n_split_row) T.d_split_row sc_split_row (fun _ _ F => F.bindsN fun _ _ _ _ _ _ us hl => match us, hl with | [_], _ => rfl) (fun vs H Q E h => ?_) (fun f cdv A outer s H vs Q E hr h => ?_)
  · obtain ⟨z, rfl, _⟩ := h
    rfl
  · obtain ⟨z, rfl, hz, q⟩ := h
    have hz2 : z.length ≤ sizeLine := Nat.le_of_lt (Nat.lt_of_le_of_lt hz (by decide))
    refine ⟨_, (pss_cons (ps_asg (pe_lst pa_nil) (pg_name (i := 1) sc_split_row.nd rfl (Or.inl rfl))) (pss_cons (ps_asg pe_int (pg_name (i := 2) sc_split_row.nd rfl (Or.inl rfl))) (pss_cons (ps_while PassesOwn.never (pt_cmpR op_lt (pv 2) (pe_callB (call_len2 : CallR _ _ (rLn K)) (by rfl) T.z_len (by decide +kernel) (pa_cons (pv 0) pa_nil)) (nomark _)) (pss_cons (ps_if (pt_cmpR (op_eq2 hr.units : OpR _ _ (rEq2 K)) (pe_ix (ix_seq : IxR _ (rIx K)) (pv 0) (pv 2) (fun _ _ => rfl)) pe_str (nomark _)) (pss_cons (ps_aug (i := 2) sc_split_row.nd rfl (Or.inl rfl) pe_int ip_add) (pss_one ps_continue)) pss_nil) (pss_cons (ps_asg (C8.pe_c (k_word_end T) hr (by first | decide | omega) (by rfl) (pa_cons (pv 0) (pa_cons (pv 2) pa_nil))) (pg_name (i := 3) sc_split_row.nd rfl (Or.inl rfl))) (pss_cons (ps_if (pt_cmpR (op_eq2 hr.units : OpR _ _ (rEq2 K)) (pv 3) (pv 2) (nomark _)) (pss_one (ps_ret pe_non)) pss_nil) (pss_cons (ps_expr (pe_bm PySem.F.plainAttrs_list PySem.F.slot_list_append PySem.F.type_list_append mt_append (pv 1) (pa_cons (pe_slice (sl_2 : SlR _ (rSl2 K)) (pv 0) (po_some (pv 2)) (po_some (pv 3))) pa_nil) : PE _ _ (tBM K _ _ _ _))) (pss_one (ps_asg (pv 3) (pg_name (i := 2) sc_split_row.nd rfl (Or.inl rfl))))))))) (pss_one (ps_ret (pv 1)))))), ?_⟩
    walk_at "ss"
    refine n_obj (Nat.zero_le _) fun p H1 np s1 e1 => ?_
    walk_at "ss"
    refine s_while (fun m σ H' => Same H H' ∧ ∃ (j : Nat) (acc : List Str) (x : Option V), m = z.length - j ∧ j ≤ z.length ∧ acc.length ≤ j ∧ from_ z j acc = wordsW z ∧ H' p = some (.lst (acc.map V.str)) ∧ σ = [some (.str z), some (.ref p), some (.int j), x]) z.length
      ⟨s1, 0, [], none, rfl, Nat.zero_le _, Nat.le_refl _, rfl, e1, rfl⟩ fun m σ H2 hW => ?_
    obtain ⟨s2, j, acc, x, rfl, hj, ha, er, e2, rfl⟩ := hW
    walk_at "ss"
    refine b_lenS hz2 ?_
    walk_at "ss"
    refine ite2 (fun e => ?_) (fun e => ?_)
    · have e := of_decide_eq_true e
      have hj1 : j < z.length := by omega
      obtain ⟨c, g1, g2⟩ := atI_cps (z := z) (i := j) hj1
      have st := from_step (acc := acc) g1
      rw [er] at st
      refine k_while ?_
      walk_at "ss"
      refine o_ixS hz2 g2 ?_
      walk_at "ss"
      refine o_eqS rfl ?_
      walk_at "ss"
      refine ite2 (fun e => ?_) (fun e => ?_)
      · have ec : c = 32 := (sign_eq (y := (" " : Str)) (by decide +kernel)).mp e
        rw [if_pos ec] at st
        walk_at "ss"
        exact ⟨_, by omega, s2, j + 1, acc, x, rfl, by omega, by omega, st.symm, e2, rfl⟩
      · have ec : ¬ c = 32 := fun z => e ((sign_eq (y := (" " : Str)) (by decide +kernel)).mpr z)
        rw [if_neg ec] at st
        walk_at "ss"
        refine ⟨z, j, c, rfl, hz, g1, ?_⟩
        walk_at "ss"
        refine o_eqS rfl ?_
        walk_at "ss"
        refine ite2 (fun e => ?_) (fun e => ?_)
        · have e := V.int.inj (of_decide_eq_true e)
          rw [if_pos (by omega)] at st
          walk_at "ss"
          refine q _ _ s2 ?_
          rw [st]
          rfl
        · have e : ¬ ((wordEnd z j c : Nat) : Int) = (j : Int) := fun z => e (by rw [z]; exact decide_eq_true rfl)
          rw [if_neg (by omega)] at st
          walk_at "ss"
          refine m_ty (lst_of e2) ?_
          walk_at "ss"
          refine l_S hz2 ?_
          walk_at "ss"
          refine m_app e2 (by rw [List.length_map]; exact Nat.lt_of_le_of_lt (Nat.le_trans ha hj) (Nat.lt_of_le_of_lt hz (by decide))) fun H3 c3 e3 => ?_
          have g3 := wordEnd_ge z j c
          have g4 := wordEnd_le g1
          walk_at "ss"
          refine ⟨_, ?_, c3.same s2 np, wordEnd z j c, acc ++ [_], _, rfl, g4, ?_, st.symm, ?_, rfl⟩
          · omega
          · rw [List.length_append]
            show acc.length + 1 ≤ _
            omega
          · rw [List.map_append]
            exact e3
    · have e := of_decide_eq_false (Bool.eq_false_iff.mpr e)
      walk_at "ss"
      refine q _ _ s2 ?_
      rw [← er, from_out (by omega)]
      exact ⟨p, rfl, np, e2⟩
end
end K23
namespace K23
open PySem PySem.Spec PyProof.Rows L2 Wy WM

section
variable {P : Program} {w : World} {K : PySem.W.Frag} {mg : Str → Option Value} {base : Heap}
def spNameW : Sp := fun vs H Q _ => ∃ (z : Str), vs = [.str z] ∧ z.length ≤ 1000000 ∧ ∀ H', Same H H' → Q (.bl (nameW z)) H'
def spNumW : Sp := fun vs H Q _ => ∃ (z : Str), vs = [.str z] ∧ z.length ≤ 1000000 ∧ ∀ H', Same H H' → Q (.bl (numberW z)) H'
theorem k_is_name (T : Tx w K mg) : C8.Cal P w K mg base 2 "is_name" spNameW [] := by
  refine cal_of (N := n_is_name) T.d_is_name sc_is_name (fun _ _ F => F.bindsN fun _ _ _ _ _ _ us hl => match us, hl with | [_], _ => rfl) (fun vs H Q E h => ?_) (fun f cdv A outer s H vs Q E hr h => ?_)
  · obtain ⟨z, rfl, _⟩ := h
    rfl
  · obtain ⟨z, rfl, hz, q⟩ := h
    have hz2 : z.length ≤ sizeLine := Nat.le_of_lt (Nat.lt_of_le_of_lt hz (by decide))
    refine ⟨_, (pss_cons (ps_if (PW.pt (pw_or (pt_not (pt_chain op_le op_le pe_int (pe_callB (call_len2 : CallR _ _ (rLn K)) (by rfl) T.z_len (by decide +kernel) (pa_cons (pv 0) pa_nil)) (C8.pe_gc (by rfl) T.g_MOST_LETTERS))) (pw_or1 (pt_cmpR (op_in2 : OpR _ _ (rIn2 K)) (pv 0) (C8.pe_gc (by rfl) T.g_RESERVED) (by rfl))))) (pss_one (ps_ret pe_bl)) pss_nil) (pss_one (ps_ret (pe_cmpR (op_eq2 hr.units : OpR _ _ (rEq2 K)) (C8.pe_c (k_run_end T) hr (by first | decide | omega) (by rfl) (pa_cons (pv 0) (pa_cons pe_int (pa_cons (C8.pe_gc (by rfl) T.g_LETTERS) pa_nil)))) (pe_callB (call_len2 : CallR _ _ (rLn K)) (by rfl) T.z_len (by decide +kernel) (pa_cons (pv 0) pa_nil)) (nomark _))))), ?_⟩
    unfold nameW at q
    walk_at "ss"
    refine b_lenS hz2 ?_
    walk_at "ss"
    refine ite2 (fun e => ?_) (fun e => ?_)
    · have e := of_decide_eq_true e
      rw [decide_eq_true (show 1 ≤ z.length by omega)] at q
      walk_at "ss"
      by_cases e2 : (z.length : Int) ≤ 12
      · rw [decide_eq_true e2]
        rw [decide_eq_true (show z.length ≤ 12 by omega)] at q
        refine iteF ?_
        walk_at "ss"
        refine o_inT (T.t_RESERVED _) rfl (by decide +kernel) ?_
        walk_at "ss"
        cases e3 : inV (.str z) c_RESERVED with
        | true =>
          rw [e3] at q
          refine iteT ?_
          walk_at "ss"
          exact q H (Same.refl H)
        | false =>
          rw [e3] at q
          refine iteF ?_
          walk_at "ss"
          refine ⟨z, LET, 0, rfl, hz, Nat.zero_le _, ?_⟩
          walk_at "ss"
          refine b_lenS hz2 ?_
          refine o_eqS rfl ?_
          walk_at "ss"
          have e4 : decide (V.int ((runEnd (tl z) (tl LET) 0 : Nat) : Int) = V.int (z.length : Int)) = decide (∀ c ∈ tl z, c ∈ tl LET) := by
            rw [decide_eq_decide, ← runEnd_all, ← str_len]
            exact ⟨fun e => by have := V.int.inj e; omega, fun e => by rw [e]⟩
          rw [e4]
          exact q H (Same.refl H)
      · rw [decide_eq_false e2]
        rw [decide_eq_false (show ¬ z.length ≤ 12 by omega)] at q
        refine iteT ?_
        refine iteT ?_
        walk_at "ss"
        exact q H (Same.refl H)
    · have e := of_decide_eq_false (Bool.eq_false_iff.mpr e)
      rw [decide_eq_false (show ¬ 1 ≤ z.length by omega)] at q
      walk_at "ss"
      refine iteT ?_
      refine iteT ?_
      walk_at "ss"
      exact q H (Same.refl H)
def spNum10 : Sp := fun vs H Q _ => ∃ (z : Str), vs = [.str z, .int 10] ∧ z.length ≤ 1000000 ∧ ∀ H', Same H H' → Q (.bl (numberW z)) H'
theorem k_is_numeral (T : Tx w K mg) : C8.Cal P w K mg base 2 "is_numeral" spNum10 [] := by
  refine cal_of (N := n_is_numeral) T.d_is_numeral sc_is_numeral (fun _ _ F => F.bindsN fun _ _ _ _ _ _ us hl => match us, hl with | [_, _], _ => rfl) (fun vs H Q E h => ?_) (fun f cdv A outer s H vs Q E hr h => ?_)
  · obtain ⟨z, rfl, _⟩ := h
    rfl
  · obtain ⟨z, rfl, hz, q⟩ := h
    have hz2 : z.length ≤ sizeLine := Nat.le_of_lt (Nat.lt_of_le_of_lt hz (by decide))
    refine ⟨_, (pss_cons (ps_if (pt_not (pt_chain op_le op_le pe_int (pe_callB (call_len2 : CallR _ _ (rLn K)) (by rfl) T.z_len (by decide +kernel) (pa_cons (pv 0) pa_nil)) (pv 1))) (pss_one (ps_ret pe_bl)) pss_nil) (pss_cons (ps_if (pt_cmpR (op_eq2 hr.units : OpR _ _ (rEq2 K)) (pe_ix (ix_seq : IxR _ (rIx K)) (pv 0) pe_int (fun _ _ => rfl)) pe_str (nomark _)) (pss_one (ps_ret (pe_cmpR (op_eq2 hr.units : OpR _ _ (rEq2 K)) (pv 0) pe_str (nomark _)))) pss_nil) (pss_one (ps_ret (pe_cmpR (op_eq2 hr.units : OpR _ _ (rEq2 K)) (C8.pe_c (k_run_end T) hr (by first | decide | omega) (by rfl) (pa_cons (pv 0) (pa_cons pe_int (pa_cons (C8.pe_gc (by rfl) T.g_DIGITS) pa_nil)))) (pe_callB (call_len2 : CallR _ _ (rLn K)) (by rfl) T.z_len (by decide +kernel) (pa_cons (pv 0) pa_nil)) (nomark _)))))), ?_⟩
    unfold numberW at q
    walk_at "ss"
    refine b_lenS hz2 ?_
    walk_at "ss"
    refine ite2 (fun e => ?_) (fun e => ?_)
    · have e := of_decide_eq_true e
      rw [decide_eq_true (show 1 ≤ z.length by omega)] at q
      walk_at "ss"
      by_cases e2 : (z.length : Int) ≤ 10
      · rw [decide_eq_true e2]
        rw [decide_eq_true (show z.length ≤ 10 by omega)] at q
        refine iteF ?_
        walk_at "ss"
        obtain ⟨c, g1, g2⟩ := atI_cps (z := z) (i := 0) (by omega)
        refine o_ixS hz2 g2 ?_
        walk_at "ss"
        refine o_eqS rfl ?_
        walk_at "ss"
        refine ite2 (fun e => ?_) (fun e => ?_)
        · have ec : c = 48 := (sign_eq (y := ("0" : Str)) (by decide +kernel)).mp e
          subst ec
          walk_at "ss"
          refine o_eqS rfl ?_
          have e4 : decide (V.str z = V.str ("0" : Str)) = (decide (∀ c ∈ tl z, c ∈ tl DIG) && (decide (z.length = 1) || !decide ((tl z)[0]? = some 48))) := by
            by_cases h1 : z.length = 1
            · have ez : z = ("0" : Str) := str_ext (by
                rw [str_len] at h1
                obtain ⟨x, hx⟩ := List.length_eq_one_iff.mp h1
                rw [hx] at g1 ⊢
                have : x = 48 := by simpa using g1
                rw [this]
                decide +kernel)
              rw [ez]
              decide +kernel
            · rw [decide_eq_false (show ¬ V.str z = V.str ("0" : Str) from fun e => h1 (by rw [V.str.inj e]; decide +kernel)), decide_eq_false h1, g1]
              simp
          rw [e4]
          exact q H (Same.refl H)
        · have ec : ¬ c = 48 := fun z => e ((sign_eq (y := ("0" : Str)) (by decide +kernel)).mpr z)
          walk_at "ss"
          refine ⟨z, DIG, 0, rfl, hz, Nat.zero_le _, ?_⟩
          walk_at "ss"
          refine b_lenS hz2 ?_
          refine o_eqS rfl ?_
          walk_at "ss"
          have e4 : decide (V.int ((runEnd (tl z) (tl DIG) 0 : Nat) : Int) = V.int (z.length : Int)) = decide (∀ c ∈ tl z, c ∈ tl DIG) := by
            rw [decide_eq_decide, ← runEnd_all, ← str_len]
            exact ⟨fun e => by have := V.int.inj e; omega, fun e => by rw [e]⟩
          rw [e4]
          rw [g1, show decide (some c = some 48) = false from decide_eq_false (fun e => ec (Option.some.inj e))] at q
          simpa using q H (Same.refl H)
      · rw [decide_eq_false e2]
        rw [decide_eq_false (show ¬ z.length ≤ 10 by omega)] at q
        refine iteT ?_
        walk_at "ss"
        simpa using q H (Same.refl H)
    · have e := of_decide_eq_false (Bool.eq_false_iff.mpr e)
      rw [decide_eq_false (show ¬ 1 ≤ z.length by omega)] at q
      walk_at "ss"
      refine iteT ?_
      walk_at "ss"
      exact q H (Same.refl H)
theorem k_is_number (T : Tx w K mg) : C8.Cal P w K mg base 3 "is_number" spNumW [] := by
  refine cal_of (N := n_is_number) T.d_is_number sc_is_number (fun _ _ F => F.bindsN fun _ _ _ _ _ _ us hl => match us, hl with | [_], _ => rfl) (fun vs H Q E h => ?_) (fun f cdv A outer s H vs Q E hr h => ?_)
  · obtain ⟨z, rfl, _⟩ := h
    rfl
  · obtain ⟨z, rfl, hz, q⟩ := h
    refine ⟨_, (pss_one (ps_ret (C8.pe_c (k_is_numeral T) hr (by first | decide | omega) (by rfl) (pa_cons (pv 0) (pa_cons (C8.pe_gc (by rfl) T.g_MOST_DIGITS) pa_nil))))), ?_⟩
    walk_at "ss"
    exact ⟨z, rfl, hz, q⟩
/-! ### the law's own -/
end
end K23
namespace K23
open PySem PySem.Spec PyProof.Rows L2 Wy WM W3

/-- a def that reads words from a place on -/
def spWs (f : List Str → Nat → PyData) : Sp := fun vs H Q _ => ∃ (p : Addr) (ws : List Str) (i : Nat), vs = [.ref p, .int i] ∧ H p = some (.lst ((ws : List Str).map V.str)) ∧ SmallW ws ∧ ∀ v H', Same H H' → Tp H' v (f ws i) → Q v H'
theorem spWs_len {f : List Str → Nat → PyData} (vs : List V) (H : Hp) (Q : VK) (E : XK) (h : spWs f vs H Q E) : vs.length = 2 := by
  obtain ⟨p, ws, i, rfl, _⟩ := h
  rfl
theorem strs_at {ws : List Str} {i : Nat} (h : i < ws.length) : atI (ws.map V.str) (i : Int) = some (.str (wordAt ws i)) := by
  refine atI_nat ?_
  rw [List.getElem?_map, List.getElem?_eq_getElem h, wordAt_in h]
  rfl
section
variable {P : Program} {w : World} {K : PySem.W.Frag} {mg : Str → Option Value} {base : Heap}
theorem k_word_at (T : Tx w K mg) : C8.Cal P w K mg base 1 "word_at" (spWs fun ws i => .str (wordAt ws i)) [] := by
  refine cal_of (N := n_word_at) T.d_word_at sc_word_at (fun _ _ F => F.bindsN fun _ _ _ _ _ _ us hl => match us, hl with | [_, _], _ => rfl) spWs_len (fun f cdv A outer s H vs Q E hr h => ?_)
  obtain ⟨p, ws, i, rfl, e, sm, q⟩ := h
  dsimp only at q
  refine ⟨_, (pss_one (ps_ret (pe_ifExp (pt_cmpR op_lt (pv 1) (pe_callB (call_len2 : CallR _ _ (rLn K)) (by rfl) T.z_len (by decide +kernel) (pa_cons (pv 0) pa_nil)) (nomark _)) (pe_ix (ix_seq : IxR _ (rIx K)) (pv 0) (pv 1) (fun _ _ => rfl)) pe_str))), ?_⟩
  walk_at "ss"
  refine b_lenL (lst_of e) ?_
  walk_at "ss"
  rw [List.length_map]
  refine ite2 (fun e1 => ?_) (fun e1 => ?_)
  · have e1 := of_decide_eq_true e1
    walk_at "ss"
    refine o_ixL (lst_of e) (strs_at (by omega)) ?_
    exact q _ H (Same.refl H) (.str _)
  · have e1 := of_decide_eq_false (Bool.eq_false_iff.mpr e1)
    walk_at "ss"
    refine q _ H (Same.refl H) ?_
    rw [wordAt_out (by omega)]
    exact .str _
/-- a new pair -/
theorem pair_tp {H : Hp} {p : Addr} {x y : V} {d e : PyData} (h : H p = some (.tup [x, y])) (h1 : Tp H x d) (h2 : Tp H y e) : Tp H (.ref p) (.tuple [d, e]) := .tup h (.cons h1 (.cons h2 .nil))
theorem k_take_signed (T : Tx w K mg) : C8.Cal P w K mg base 4 "_take_signed" (spWs fun ws i => iD (takeSigned ws i)) [] := by
  refine cal_of (N := n_take_signed) T.d_take_signed sc_take_signed (fun _ _ F => F.bindsN fun _ _ _ _ _ _ us hl => match us, hl with | [_, _], _ => rfl) spWs_len (fun f cdv A outer s H vs Q E hr h => ?_)
  obtain ⟨p, ws, i, rfl, e, sm, q⟩ := h
  dsimp only at q
  refine ⟨_, (pss_cons (ps_if (pt_tr (C8.pe_c (k_is_number T) hr (by first | decide | omega) (by rfl) (pa_cons (C8.pe_c (k_word_at T) hr (by first | decide | omega) (by rfl) (pa_cons (pv 0) (pa_cons (pv 1) pa_nil))) pa_nil)) : PT _ _ (tTr K _)) (pss_one (ps_ret (pe_tup (pa_cons (pe_callTy call_int2 (by rfl) T.z_int (by decide +kernel) (pa_cons (pe_ix (ix_seq : IxR _ (rIx K)) (pv 0) (pv 1) (fun _ _ => rfl)) pa_nil)) (pa_cons (pe_op op_add3 (pv 1) pe_int) pa_nil))))) pss_nil) (pss_cons (ps_if (PW.pt (pw_and (pt_cmpR (op_eq2 hr.units : OpR _ _ (rEq2 K)) (C8.pe_c (k_word_at T) hr (by first | decide | omega) (by rfl) (pa_cons (pv 0) (pa_cons (pv 1) pa_nil))) pe_str (nomark _)) (pw_and1 (pt_tr (C8.pe_c (k_is_number T) hr (by first | decide | omega) (by rfl) (pa_cons (C8.pe_c (k_word_at T) hr (by first | decide | omega) (by rfl) (pa_cons (pv 0) (pa_cons (pe_op op_add3 (pv 1) pe_int) pa_nil))) pa_nil)) : PT _ _ (tTr K _))))) (pss_one (ps_ret (pe_tup (pa_cons (pe_un un_neg (pe_callTy call_int2 (by rfl) T.z_int (by decide +kernel) (pa_cons (pe_ix (ix_seq : IxR _ (rIx K)) (pv 0) (pe_op op_add3 (pv 1) pe_int) (fun _ _ => rfl)) pa_nil))) (pa_cons (pe_op op_add3 (pv 1) pe_int) pa_nil))))) pss_nil) (pss_one (ps_ret pe_non)))), ?_⟩
  unfold takeSigned at q
  walk_at "ss"
  refine ⟨p, ws, i, rfl, e, sm, fun v H1 s1 t1 => ?_⟩
  cases t1
  walk_at "ss"
  refine ⟨_, rfl, sm.at6 _, fun H2 s2 => ?_⟩
  walk_at "ss"
  refine ite2 (fun e1 => ?_) (fun e1 => ?_)
  · rw [if_pos e1] at q
    have hlt := number_lt e1
    have e2 := s2 _ _ (s1 _ _ e)
    walk_at "ss"
    refine o_ixL (lst_of e2) (strs_at hlt) ?_
    walk_at "ss"
    refine b_intS (number_int e1).1 (number_int e1).2 ?_
    walk_at "ss"
    refine n_obj (lz (by simp)) fun p3 H3 n3 s3 e3 => ?_
    exact q _ H3 ((s1.trans s2).trans s3) (pair_tp e3 (.int _) (.int _))
  · rw [if_neg e1] at q
    walk_at "ss"
    refine ⟨p, ws, i, rfl, s2 _ _ (s1 _ _ e), sm, fun v H3 s3 t3 => ?_⟩
    cases t3
    walk_at "ss"
    refine o_eqS rfl ?_
    walk_at "ss"
    refine ite2 (fun e2 => ?_) (fun e2 => ?_)
    · have e2 : wordAt ws i = "-" := V.str.inj (of_decide_eq_true e2)
      walk_at "ss"
      refine ⟨p, ws, i + 1, rfl, s3 _ _ (s2 _ _ (s1 _ _ e)), sm, fun v H4 s4 t4 => ?_⟩
      cases t4
      walk_at "ss"
      refine ⟨_, rfl, sm.at6 _, fun H5 s5 => ?_⟩
      walk_at "ss"
      refine ite2 (fun e3 => ?_) (fun e3 => ?_)
      · rw [if_pos ⟨e2, e3⟩] at q
        have hlt := number_lt e3
        have e6 := s5 _ _ (s4 _ _ (s3 _ _ (s2 _ _ (s1 _ _ e))))
        walk_at "ss"
        refine o_ixL (lst_of e6) (strs_at (i := i + 1) hlt) ?_
        walk_at "ss"
        refine b_intS (number_int e3).1 (number_int e3).2 ?_
        walk_at "ss"
        refine n_obj (lz (by simp)) fun p7 H7 n7 s7 e7 => ?_
        exact q _ H7 (((((s1.trans s2).trans s3).trans s4).trans s5).trans s7) (pair_tp e7 (.int _) (.int _))
      · rw [if_neg (fun h => e3 h.2)] at q
        walk_at "ss"
        exact q _ H5 ((((s1.trans s2).trans s3).trans s4).trans s5) .non
    · rw [if_neg (fun h => e2 (decide_eq_true (congrArg V.str h.1)))] at q
      walk_at "ss"
      refine iteF ?_
      walk_at "ss"
      exact q _ H3 ((s1.trans s2).trans s3) .non
theorem k_take_plus (T : Tx w K mg) : C8.Cal P w K mg base 4 "_take_plus" (spWs fun ws i => iD (takePlus ws i)) [] := by
  refine cal_of (N := n_take_plus) T.d_take_plus sc_take_plus (fun _ _ F => F.bindsN fun _ _ _ _ _ _ us hl => match us, hl with | [_, _], _ => rfl) spWs_len (fun f cdv A outer s H vs Q E hr h => ?_)
  obtain ⟨p, ws, i, rfl, e, sm, q⟩ := h
  dsimp only at q
  refine ⟨_, (pss_cons (ps_asg (C8.pe_c (k_word_at T) hr (by first | decide | omega) (by rfl) (pa_cons (pv 0) (pa_cons (pv 1) pa_nil))) (pg_name (i := 2) sc_take_plus.nd rfl (Or.inl rfl))) (pss_cons (ps_if (pt_cmpR (op_ni2 : OpR _ _ (rNi2 K)) (pv 2) (pe_tup (pa_cons pe_str (pa_cons pe_str pa_nil))) (by rfl)) (pss_one (ps_ret (pe_tup (pa_cons pe_int (pa_cons (pv 1) pa_nil))))) pss_nil) (pss_cons (ps_if (pt_not (pt_tr (C8.pe_c (k_is_number T) hr (by first | decide | omega) (by rfl) (pa_cons (C8.pe_c (k_word_at T) hr (by first | decide | omega) (by rfl) (pa_cons (pv 0) (pa_cons (pe_op op_add3 (pv 1) pe_int) pa_nil))) pa_nil)) : PT _ _ (tTr K _))) (pss_one (ps_ret pe_non)) pss_nil) (pss_cons (ps_asg (pe_callTy call_int2 (by rfl) T.z_int (by decide +kernel) (pa_cons (pe_ix (ix_seq : IxR _ (rIx K)) (pv 0) (pe_op op_add3 (pv 1) pe_int) (fun _ _ => rfl)) pa_nil)) (pg_name (i := 3) sc_take_plus.nd rfl (Or.inl rfl))) (pss_one (ps_ret (pe_tup (pa_cons (pe_ifExp (pt_cmpR (op_eq2 hr.units : OpR _ _ (rEq2 K)) (pv 2) pe_str (nomark _)) (pv 3) (pe_un un_neg (pv 3))) (pa_cons (pe_op op_add3 (pv 1) pe_int) pa_nil))))))))), ?_⟩
  unfold takePlus at q
  walk_at "ss"
  refine ⟨p, ws, i, rfl, e, sm, fun v H1 s1 t1 => ?_⟩
  cases t1
  walk_at "ss"
  refine n_obj (lz (by simp)) fun p2 H2 n2 s2 e2 => ?_
  refine o_niT (tup_of e2) rfl (by decide +kernel) ?_
  walk_at "ss"
  have hin : inV (.str (wordAt ws i)) [.str "+", .str "-"] = decide (wordAt ws i = "+" ∨ wordAt ws i = "-") := by
    show ((("+" : Str) == wordAt ws i) || ((("-" : Str) == wordAt ws i) || false)) = _
    rw [Bool.or_false, Bool.eq_iff_iff, Bool.or_eq_true, beq_iff_eq, beq_iff_eq, decide_eq_true_iff]
    exact ⟨fun h => h.imp Eq.symm Eq.symm, fun h => h.imp Eq.symm Eq.symm⟩
  by_cases hs : wordAt ws i = "+" ∨ wordAt ws i = "-"
  · rw [hin, decide_eq_true hs]
    rw [if_pos hs] at q
    refine iteF ?_
    walk_at "ss"
    refine ⟨p, ws, i + 1, rfl, s2 _ _ (s1 _ _ e), sm, fun v H3 s3 t3 => ?_⟩
    cases t3
    walk_at "ss"
    refine ⟨_, rfl, sm.at6 _, fun H4 s4 => ?_⟩
    walk_at "ss"
    cases e3 : numberW (wordAt ws (i + 1)) with
    | false =>
      rw [e3] at q
      refine iteT ?_
      walk_at "ss"
      exact q _ H4 (((s1.trans s2).trans s3).trans s4) .non
    | true =>
      rw [e3, if_pos rfl] at q
      refine iteF ?_
      have hlt := number_lt e3
      have e5 := s4 _ _ (s3 _ _ (s2 _ _ (s1 _ _ e)))
      walk_at "ss"
      refine o_ixL (lst_of e5) (strs_at (i := i + 1) hlt) ?_
      walk_at "ss"
      refine b_intS (number_int e3).1 (number_int e3).2 ?_
      walk_at "ss"
      refine o_eqS rfl ?_
      walk_at "ss"
      refine ite2 (fun e4 => ?_) (fun e4 => ?_)
      · have e4 : wordAt ws i = "+" := V.str.inj (of_decide_eq_true e4)
        rw [if_pos e4] at q
        walk_at "ss"
        refine n_obj (lz (by simp)) fun p7 H7 n7 s7 e7 => ?_
        exact q _ H7 ((((s1.trans s2).trans s3).trans s4).trans s7) (pair_tp e7 (.int _) (.int _))
      · rw [if_neg (fun h => e4 (decide_eq_true (congrArg V.str h)))] at q
        walk_at "ss"
        refine n_obj (lz (by simp)) fun p7 H7 n7 s7 e7 => ?_
        exact q _ H7 ((((s1.trans s2).trans s3).trans s4).trans s7) (pair_tp e7 (.int _) (.int _))
  · rw [hin, decide_eq_false hs]
    rw [if_neg hs] at q
    refine iteT ?_
    walk_at "ss"
    refine n_obj (lz (by simp)) fun p7 H7 n7 s7 e7 => ?_
    exact q _ H7 ((s1.trans s2).trans s7) (pair_tp e7 (.int _) (.int _))
/-- what a pair or None holds -/
theorem tp_none {H : Hp} {v : V} (h : Tp H v .none) : v = .non := by
  cases h
  rfl
theorem tp_pair {H : Hp} {v : V} {d e : PyData} (h : Tp H v (.tuple [d, e])) : ∃ a x y, v = .ref a ∧ H a = some (.tup [x, y]) ∧ Tp H x d ∧ Tp H y e := by
  cases h with
  | tup e1 r =>
    cases r with
    | cons h1 r =>
      cases r with
      | cons h2 r =>
        cases r
        exact ⟨_, _, _, rfl, e1, h1, h2⟩
theorem tp_int {H : Hp} {v : V} {i : Int} (h : Tp H v (.int i)) : v = .int i := by
  cases h
  rfl
theorem tp_str {H : Hp} {v : V} {z : Str} (h : Tp H v (.str z)) : v = .str z := by
  cases h
  rfl
theorem k_take_plain (T : Tx w K mg) : C8.Cal P w K mg base 5 "_take_plain" (spWs fun ws i => eD (takePlain ws i)) [] := by
  refine cal_of (N := n_take_plain) T.d_take_plain sc_take_plain (fun _ _ F => F.bindsN fun _ _ _ _ _ _ us hl => match us, hl with | [_, _], _ => rfl) spWs_len (fun f cdv A outer s H vs Q E hr h => ?_)
  obtain ⟨p, ws, i, rfl, e, sm, q⟩ := h
  dsimp only at q
  refine ⟨_, (pss_cons (ps_if (pt_not (pt_tr (C8.pe_c (k_is_name T) hr (by first | decide | omega) (by rfl) (pa_cons (C8.pe_c (k_word_at T) hr (by first | decide | omega) (by rfl) (pa_cons (pv 0) (pa_cons (pv 1) pa_nil))) pa_nil)) : PT _ _ (tTr K _))) (pss_cons (ps_asg (C8.pe_c (k_take_signed T) hr (by first | decide | omega) (by rfl) (pa_cons (pv 0) (pa_cons (pv 1) pa_nil))) (pg_name (i := 2) sc_take_plain.nd rfl (Or.inl rfl))) (pss_one (ps_ret (pe_ifExp (pt_cmpR op_isN2 (pv 2) pe_non (nomark _)) pe_non (pe_tup (pa_cons (pe_tup (pa_cons pe_str (pa_cons (pe_ix (ix_seq : IxR _ (rIx K)) (pv 2) pe_int (fun _ _ => rfl)) pa_nil))) (pa_cons (pe_ix (ix_seq : IxR _ (rIx K)) (pv 2) pe_int (fun _ _ => rfl)) pa_nil))))))) pss_nil) (pss_cons (ps_asg (C8.pe_c (k_take_plus T) hr (by first | decide | omega) (by rfl) (pa_cons (pv 0) (pa_cons (pe_op op_add3 (pv 1) pe_int) pa_nil))) (pg_name (i := 3) sc_take_plain.nd rfl (Or.inl rfl))) (pss_one (ps_ret (pe_ifExp (pt_cmpR op_isN2 (pv 3) pe_non (nomark _)) pe_non (pe_tup (pa_cons (pe_tup (pa_cons pe_str (pa_cons (pe_ix (ix_seq : IxR _ (rIx K)) (pv 0) (pv 1) (fun _ _ => rfl)) (pa_cons (pe_ix (ix_seq : IxR _ (rIx K)) (pv 3) pe_int (fun _ _ => rfl)) pa_nil)))) (pa_cons (pe_ix (ix_seq : IxR _ (rIx K)) (pv 3) pe_int (fun _ _ => rfl)) pa_nil)))))))), ?_⟩
  unfold takePlain at q
  walk_at "ss"
  refine ⟨p, ws, i, rfl, e, sm, fun v H1 s1 t1 => ?_⟩
  cases t1
  walk_at "ss"
  refine ⟨_, rfl, sm.at6 _, fun H2 s2 => ?_⟩
  have e2 := s2 _ _ (s1 _ _ e)
  walk_at "ss"
  cases hn : nameW (wordAt ws i) with
  | false =>
    rw [hn, if_neg Bool.false_ne_true] at q
    refine iteT ?_
    walk_at "ss"
    refine ⟨p, ws, i, rfl, e2, sm, fun v H3 s3 t3 => ?_⟩
    dsimp only at t3
    have s03 := (s1.trans s2).trans s3
    cases ht : takeSigned ws i with
    | none =>
      rw [ht] at t3 q
      obtain rfl := tp_none t3
      walk_at "ss"
      refine iteT ?_
      walk_at "ss"
      exact q _ H3 s03 .non
    | some r =>
      obtain ⟨n, j⟩ := r
      rw [ht] at t3 q
      obtain ⟨a, x, y, rfl, ea, tx, ty⟩ := tp_pair t3
      obtain rfl := tp_int tx
      obtain rfl := tp_int ty
      walk_at "ss"
      refine iteF ?_
      walk_at "ss"
      refine o_ixT (tup_of ea) (atI_nat (j := 0) rfl) ?_
      walk_at "ss"
      refine n_obj (lz (by simp)) fun p4 H4 n4 s4 e4 => ?_
      walk_at "ss"
      refine o_ixT (tup_of (s4 _ _ ea)) (atI_nat (j := 1) rfl) ?_
      walk_at "ss"
      refine n_obj (lz (by simp)) fun p5 H5 n5 s5 e5 => ?_
      exact q _ H5 ((s03.trans s4).trans s5) (pair_tp e5 (pair_tp (s5 _ _ e4) (.str _) (.int _)) (.int _))
  | true =>
    rw [hn, if_pos rfl] at q
    refine iteF ?_
    walk_at "ss"
    refine ⟨p, ws, i + 1, rfl, e2, sm, fun v H3 s3 t3 => ?_⟩
    dsimp only at t3
    have s03 := (s1.trans s2).trans s3
    cases ht : takePlus ws (i + 1) with
    | none =>
      rw [ht] at t3 q
      obtain rfl := tp_none t3
      walk_at "ss"
      refine iteT ?_
      walk_at "ss"
      exact q _ H3 s03 .non
    | some r =>
      obtain ⟨n, j⟩ := r
      rw [ht] at t3 q
      obtain ⟨a, x, y, rfl, ea, tx, ty⟩ := tp_pair t3
      obtain rfl := tp_int tx
      obtain rfl := tp_int ty
      walk_at "ss"
      refine iteF ?_
      walk_at "ss"
      refine o_ixL (lst_of (s3 _ _ e2)) (strs_at (name_lt hn)) ?_
      walk_at "ss"
      refine o_ixT (tup_of ea) (atI_nat (j := 0) rfl) ?_
      walk_at "ss"
      refine n_obj (lz (by simp)) fun p4 H4 n4 s4 e4 => ?_
      walk_at "ss"
      refine o_ixT (tup_of (s4 _ _ ea)) (atI_nat (j := 1) rfl) ?_
      walk_at "ss"
      refine n_obj (lz (by simp)) fun p5 H5 n5 s5 e5 => ?_
      exact q _ H5 ((s03.trans s4).trans s5) (pair_tp e5 (.tup (s5 _ _ e4) (.cons (.str _) (.cons (.str _) (.cons (.int _) .nil)))) (.int _))
theorem k_take_expression (T : Tx w K mg) : C8.Cal P w K mg base 6 "_take_expression" (spWs fun ws i => eD (takeExpr ws i)) [] := by
  refine cal_of (N := n_take_expression) T.d_take_expression sc_take_expression (fun _ _ F => F.bindsN fun _ _ _ _ _ _ us hl => match us, hl with | [_, _], _ => rfl) spWs_len (fun f cdv A outer s H vs Q E hr h => ?_)
  obtain ⟨p, ws, i, rfl, e, sm, q⟩ := h
  dsimp only at q
  refine ⟨_, (pss_cons (ps_if (PW.pt (pw_or (pt_not (pt_tr (C8.pe_c (k_is_name T) hr (by first | decide | omega) (by rfl) (pa_cons (C8.pe_c (k_word_at T) hr (by first | decide | omega) (by rfl) (pa_cons (pv 0) (pa_cons (pv 1) pa_nil))) pa_nil)) : PT _ _ (tTr K _))) (pw_or1 (pt_cmpR (op_ne2 hr.units : OpR _ _ (rNe2 K)) (C8.pe_c (k_word_at T) hr (by first | decide | omega) (by rfl) (pa_cons (pv 0) (pa_cons (pe_op op_add3 (pv 1) pe_int) pa_nil))) pe_str (nomark _))))) (pss_one (ps_ret (C8.pe_c (k_take_plain T) hr (by first | decide | omega) (by rfl) (pa_cons (pv 0) (pa_cons (pv 1) pa_nil))))) pss_nil) (pss_cons (ps_asg (C8.pe_c (k_take_plain T) hr (by first | decide | omega) (by rfl) (pa_cons (pv 0) (pa_cons (pe_op op_add3 (pv 1) pe_int) pa_nil))) (pg_name (i := 2) sc_take_expression.nd rfl (Or.inl rfl))) (pss_cons (ps_if (PW.pt (pw_or (pt_cmpR op_isN2 (pv 2) pe_non (nomark _)) (pw_or1 (pt_cmpR (op_ne2 hr.units : OpR _ _ (rNe2 K)) (C8.pe_c (k_word_at T) hr (by first | decide | omega) (by rfl) (pa_cons (pv 0) (pa_cons (pe_ix (ix_seq : IxR _ (rIx K)) (pv 2) pe_int (fun _ _ => rfl)) pa_nil))) pe_str (nomark _))))) (pss_one (ps_ret pe_non)) pss_nil) (pss_cons (ps_asg (C8.pe_c (k_take_plus T) hr (by first | decide | omega) (by rfl) (pa_cons (pv 0) (pa_cons (pe_op op_add3 (pe_ix (ix_seq : IxR _ (rIx K)) (pv 2) pe_int (fun _ _ => rfl)) pe_int) pa_nil))) (pg_name (i := 3) sc_take_expression.nd rfl (Or.inl rfl))) (pss_one (ps_ret (pe_ifExp (pt_cmpR op_isN2 (pv 3) pe_non (nomark _)) pe_non (pe_tup (pa_cons (pe_tup (pa_cons pe_str (pa_cons (pe_ix (ix_seq : IxR _ (rIx K)) (pv 0) (pv 1) (fun _ _ => rfl)) (pa_cons (pe_ix (ix_seq : IxR _ (rIx K)) (pv 2) pe_int (fun _ _ => rfl)) (pa_cons (pe_ix (ix_seq : IxR _ (rIx K)) (pv 3) pe_int (fun _ _ => rfl)) pa_nil))))) (pa_cons (pe_ix (ix_seq : IxR _ (rIx K)) (pv 3) pe_int (fun _ _ => rfl)) pa_nil)))))))))), ?_⟩
  unfold takeExpr at q
  walk_at "ss"
  refine ⟨p, ws, i, rfl, e, sm, fun v H1 s1 t1 => ?_⟩
  cases t1
  walk_at "ss"
  refine ⟨_, rfl, sm.at6 _, fun H2 s2 => ?_⟩
  have e2 := s2 _ _ (s1 _ _ e)
  walk_at "ss"
  cases hn : nameW (wordAt ws i) with
  | false =>
    rw [hn, if_neg (fun h => Bool.false_ne_true h.1)] at q
    refine iteT ?_
    refine iteT ?_
    walk_at "ss"
    exact ⟨p, ws, i, rfl, e2, sm, fun v H3 s3 t3 => q v H3 ((s1.trans s2).trans s3) t3⟩
  | true =>
    refine iteF ?_
    walk_at "ss"
    refine ⟨p, ws, i + 1, rfl, e2, sm, fun v H3 s3 t3 => ?_⟩
    cases t3
    have e3 := s3 _ _ e2
    have s03 := (s1.trans s2).trans s3
    refine o_neS rfl ?_
    walk_at "ss"
    by_cases hb : wordAt ws (i + 1) = "["
    · rw [if_pos ⟨hn, hb⟩] at q
      rw [hb, decide_eq_true rfl]
      refine iteF ?_
      walk_at "ss"
      refine ⟨p, ws, i + 2, rfl, e3, sm, fun v H4 s4 t4 => ?_⟩
      dsimp only at t4
      have s04 := s03.trans s4
      have e4 := s4 _ _ e3
      cases ht : takePlain ws (i + 2) with
      | none =>
        rw [ht] at t4 q
        obtain rfl := tp_none t4
        walk_at "ss"
        refine iteT ?_
        refine iteT ?_
        walk_at "ss"
        exact q _ H4 s04 .non
      | some r =>
        obtain ⟨x, j⟩ := r
        rw [ht] at t4 q
        dsimp only at q
        obtain ⟨a, x1, y1, rfl, ea, tx, ty⟩ := tp_pair t4
        obtain rfl := tp_int ty
        walk_at "ss"
        refine iteF ?_
        walk_at "ss"
        refine o_ixT (tup_of ea) (atI_nat (j := 1) rfl) ?_
        walk_at "ss"
        refine ⟨p, ws, j, rfl, e4, sm, fun v H5 s5 t5 => ?_⟩
        cases t5
        have e5 := s5 _ _ e4
        have s05 := s04.trans s5
        walk_at "ss"
        refine o_neS rfl ?_
        walk_at "ss"
        by_cases hc : wordAt ws j = "]"
        · rw [if_pos hc] at q
          rw [hc, decide_eq_true rfl]
          refine iteF ?_
          walk_at "ss"
          refine o_ixT (tup_of (s5 _ _ ea)) (atI_nat (j := 1) rfl) ?_
          walk_at "ss"
          refine ⟨p, ws, j + 1, rfl, e5, sm, fun v H6 s6 t6 => ?_⟩
          dsimp only at t6
          have e6 := s6 _ _ e5
          have s06 := s05.trans s6
          cases hp : takePlus ws (j + 1) with
          | none =>
            rw [hp] at t6 q
            obtain rfl := tp_none t6
            walk_at "ss"
            refine iteT ?_
            walk_at "ss"
            exact q _ H6 s06 .non
          | some r =>
            obtain ⟨n, k⟩ := r
            rw [hp] at t6 q
            obtain ⟨a2, x2, y2, rfl, ea2, tx2, ty2⟩ := tp_pair t6
            obtain rfl := tp_int tx2
            obtain rfl := tp_int ty2
            walk_at "ss"
            refine iteF ?_
            walk_at "ss"
            refine o_ixL (lst_of e6) (strs_at (name_lt hn)) ?_
            walk_at "ss"
            refine o_ixT (tup_of (s6 _ _ (s5 _ _ ea))) (atI_nat (j := 0) rfl) ?_
            walk_at "ss"
            refine o_ixT (tup_of ea2) (atI_nat (j := 0) rfl) ?_
            walk_at "ss"
            refine n_obj (lz (by simp)) fun p7 H7 n7 s7 e7 => ?_
            walk_at "ss"
            refine o_ixT (tup_of (s7 _ _ ea2)) (atI_nat (j := 1) rfl) ?_
            walk_at "ss"
            refine n_obj (lz (by simp)) fun p8 H8 n8 s8 e8 => ?_
            exact q _ H8 ((s06.trans s7).trans s8) (pair_tp e8 (.tup (s8 _ _ e7) (.cons (.str _) (.cons (.str _) (.cons (Tp.tk (((s5.trans s6).trans s7).trans s8).tk tx) (.cons (.int _) .nil))))) (.int _))
        · rw [if_neg hc] at q
          rw [decide_eq_false (fun h => hc (V.str.inj h))]
          refine iteT ?_
          walk_at "ss"
          exact q _ H5 s05 .non
    · rw [if_neg (fun h => hb h.2)] at q
      rw [decide_eq_false (fun h => hb (V.str.inj h))]
      refine iteT ?_
      walk_at "ss"
      exact ⟨p, ws, i, rfl, e3, sm, fun v H3 s3' t3 => q v H3 (s03.trans s3') t3⟩
end
end K23
namespace K23
open PySem PySem.Spec PyProof.Rows L2 Wy WM W3 W4 W5

section
variable {P : Program} {w : World} {K : PySem.W.Frag} {mg : Str → Option Value} {base : Heap}
theorem plusS_pos {p : Int} (h : 0 < p) : Str.empty ++ (" + " : Str) ++ Str.ofString (toString p) = plusS p := by
  unfold plusS
  rw [if_neg (by omega), if_pos h, toStr_nat (by omega)]
  refine str_ext ?_
  rw [app_tl, app_tl, app_tl]
  rfl
theorem plusS_neg {p : Int} (h : p < 0) : Str.empty ++ (" - " : Str) ++ Str.ofString (toString (-p)) = plusS p := by
  unfold plusS
  rw [if_neg (by omega), if_neg (by omega), toStr_nat (by omega)]
  refine str_ext ?_
  rw [app_tl, app_tl, app_tl]
  rfl
def spPlusS : Sp := fun vs H Q _ => ∃ p : Int, vs = [.int p] ∧ p.natAbs < 10 ^ 10 ∧ Q (.str (plusS p)) H
theorem k_write_plus (T : Tx w K mg) : C8.Cal P w K mg base 1 "_write_plus" spPlusS [] := by
  refine cal_of (N := n_write_plus) T.d_write_plus sc_write_plus (fun _ _ F => F.bindsN fun _ _ _ _ _ _ us hl => match us, hl with | [_], _ => rfl) (fun vs H Q E h => ?_) (fun f cdv A outer s H vs Q E hr h => ?_)
  · obtain ⟨p, rfl, _⟩ := h
    rfl
  · obtain ⟨p, rfl, hp, q⟩ := h
    have hl := plusS_len hp
    refine ⟨_, (pss_cons (ps_if (pt_cmpR (op_eq2 hr.units : OpR _ _ (rEq2 K)) (pv 0) pe_int (nomark _)) (pss_one (ps_ret pe_str)) pss_nil) (pss_one (ps_ret (pe_ifExp (pt_cmpR op_gt (pv 0) pe_int (nomark _)) (pe_joined2 (PJ.cons pe_str (PJ.cons (pe_fmt (pv 0)) PJ.nil))) (pe_joined2 (PJ.cons pe_str (PJ.cons (pe_fmt (pe_un un_neg (pv 0))) PJ.nil))))))), ?_⟩
    walk_at "ss"
    refine o_eqS rfl ?_
    walk_at "ss"
    refine ite2 (fun e => ?_) (fun e => ?_)
    · have e := V.int.inj (of_decide_eq_true e)
      walk_at "ss"
      subst e
      exact q
    · walk_at "ss"
      refine ite2 (fun e1 => ?_) (fun e1 => ?_)
      · have e1 := of_decide_eq_true e1
        have e2 := plusS_pos e1
        walk_at "ss"
        refine k_j (by decide +kernel) ?_
        walk_at "ss"
        refine k_fI (by omega) ?_
        refine k_j (by rw [e2]; exact lz (by omega)) ?_
        walk_at "ss"
        rw [e2]
        exact q
      · have e1 := of_decide_eq_false (Bool.eq_false_iff.mpr e1)
        have e : p ≠ 0 := fun z => e (by rw [z]; exact decide_eq_true rfl)
        have e2 := plusS_neg (p := p) (by omega)
        walk_at "ss"
        refine k_j (by decide +kernel) ?_
        walk_at "ss"
        refine k_fI (by omega) ?_
        refine k_j (by rw [e2]; exact lz (by omega)) ?_
        walk_at "ss"
        rw [e2]
        exact q
def dep : Ex → Nat
  | .num _ => 0
  | .var _ _ => 0
  | .item _ i _ => dep i + 1
theorem plain_dep {e : Ex} (h : Plain e) : dep e = 0 := by
  cases e with
  | num n => rfl
  | var x p => rfl
  | item x i p => exact h.elim
theorem good_dep {e : Ex} (h : Good e) : dep e ≤ 1 := by
  cases e with
  | num n => exact Nat.zero_le _
  | var x p => exact Nat.zero_le _
  | item x i p =>
    show dep i + 1 ≤ 1
    rw [plain_dep h.2.1]
    exact Nat.le_refl _
/-- what an expression's tuple holds -/
theorem ex_num {H : Hp} {v : V} {n : Int} (h : Tp H v (Ex.num n).d) : ∃ a, v = .ref a ∧ H a = some (.tup [.str "num", .int n]) := by
  cases h with
  | tup e r =>
    cases r with | cons h1 r => cases r with | cons h2 r =>
      cases r
      cases h1
      cases h2
      exact ⟨_, rfl, e⟩
theorem ex_var {H : Hp} {v : V} {x : Str} {p : Int} (h : Tp H v (Ex.var x p).d) : ∃ a, v = .ref a ∧ H a = some (.tup [.str "var", .str x, .int p]) := by
  cases h with
  | tup e r =>
    cases r with | cons h1 r => cases r with | cons h2 r => cases r with | cons h3 r =>
      cases r
      cases h1
      cases h2
      cases h3
      exact ⟨_, rfl, e⟩
theorem ex_item {H : Hp} {v : V} {x : Str} {i : Ex} {p : Int} (h : Tp H v (Ex.item x i p).d) : ∃ a u, v = .ref a ∧ H a = some (.tup [.str "item", .str x, u, .int p]) ∧ Tp H u i.d := by
  cases h with
  | tup e r =>
    cases r with | cons h1 r => cases r with | cons h2 r => cases r with | cons h3 r => cases r with | cons h4 r =>
      cases r
      cases h1
      cases h2
      cases h4
      exact ⟨_, _, rfl, e, h3⟩
/-- an expression's text -/
def spText (n : Nat) : Sp := fun vs H Q _ => ∃ (v : V) (e : Ex), vs = [v] ∧ Tp H v e.d ∧ Good e ∧ dep e < n ∧ Q (.str (textE e)) H
theorem spText_no (vs : List V) (H : Hp) (Q : VK) (E : XK) : ¬ spText 0 vs H Q E := by
  rintro ⟨v, e, _, _, _, h, _⟩
  omega
theorem k_write_expression (T : Tx w K mg) : ∀ n : Nat, C8.Cal P w K mg base (n + 1) "write_expression" (spText n) []
  | 0 => cal_never (ps := ["expression"]) T.d_write_expression (fun _ _ F => F.bindsN fun _ _ _ _ _ _ us hl => match us, hl with | [_], _ => rfl) spText_no
  | n + 1 => by
    have ih := k_write_expression T n
    refine cal_of (N := n_write_expression) T.d_write_expression sc_write_expression (fun _ _ F => F.bindsN fun _ _ _ _ _ _ us hl => match us, hl with | [_], _ => rfl) (fun vs H Q E h => ?_) (fun f cdv A outer s H vs Q E hr h => ?_)
    · obtain ⟨v, e, rfl, _⟩ := h
      rfl
    · obtain ⟨v, e, rfl, te, hg, hd, q⟩ := h
      have hl := good_len hg
      refine ⟨_, (pss_cons (ps_if (pt_cmpR (op_eq2 hr.units : OpR _ _ (rEq2 K)) (pe_ix (ix_seq : IxR _ (rIx K)) (pv 0) pe_int (fun _ _ => rfl)) pe_str (nomark _)) (pss_one (ps_ret (pe_callTy call_strI (by rfl) T.z_str (by decide +kernel) (pa_cons (pe_ix (ix_seq : IxR _ (rIx K)) (pv 0) pe_int (fun _ _ => rfl)) pa_nil)))) pss_nil) (pss_cons (ps_if (pt_cmpR (op_eq2 hr.units : OpR _ _ (rEq2 K)) (pe_ix (ix_seq : IxR _ (rIx K)) (pv 0) pe_int (fun _ _ => rfl)) pe_str (nomark _)) (pss_cons (ps_asg (pv 0) (pg_tup (by rfl) (pgs_cons (pg_name (i := 1) sc_write_expression.nd rfl (Or.inl rfl)) (pgs_cons (pg_name (i := 2) sc_write_expression.nd rfl (Or.inl rfl)) (pgs_cons (pg_name (i := 3) sc_write_expression.nd rfl (Or.inl rfl)) pgs_nil))) : PG _ _ (gTup K _ _))) (pss_one (ps_ret (pe_op op_add3 (pv 2) (C8.pe_c (k_write_plus T) hr (by first | decide | omega) (by rfl) (pa_cons (pv 3) pa_nil)))))) pss_nil) (pss_cons (ps_asg (pv 0) (pg_tup (by rfl) (pgs_cons (pg_name (i := 1) sc_write_expression.nd rfl (Or.inl rfl)) (pgs_cons (pg_name (i := 2) sc_write_expression.nd rfl (Or.inl rfl)) (pgs_cons (pg_name (i := 4) sc_write_expression.nd rfl (Or.inl rfl)) (pgs_cons (pg_name (i := 3) sc_write_expression.nd rfl (Or.inl rfl)) pgs_nil)))) : PG _ _ (gTup K _ _))) (pss_one (ps_ret (pe_joined2 (PJ.cons (pe_fmt (pv 2)) (PJ.cons pe_str (PJ.cons (pe_fmt (C8.pe_c ih hr (by first | decide | omega) (by rfl) (pa_cons (pv 4) pa_nil))) (PJ.cons pe_str (PJ.cons (pe_fmt (C8.pe_c (k_write_plus T) hr (by first | decide | omega) (by rfl) (pa_cons (pv 3) pa_nil))) PJ.nil))))))))))), ?_⟩
      cases e with
      | num m =>
        obtain ⟨a, rfl, ea⟩ := ex_num te
        have hm : m.natAbs < 10 ^ 10 := hg
        walk_at "ss"
        refine o_ixT (tup_of ea) (atI_nat (j := 0) rfl) ?_
        walk_at "ss"
        refine o_eqS rfl ?_
        walk_at "ss"
        refine iteT ?_
        walk_at "ss"
        refine o_ixT (tup_of ea) (atI_nat (j := 1) rfl) ?_
        walk_at "ss"
        refine b_strI (by omega) ?_
        exact q
      | var x p =>
        obtain ⟨a, rfl, ea⟩ := ex_var te
        walk_at "ss"
        refine o_ixT (tup_of ea) (atI_nat (j := 0) rfl) ?_
        walk_at "ss"
        refine o_eqS rfl ?_
        walk_at "ss"
        refine iteF ?_
        walk_at "ss"
        refine o_ixT (tup_of ea) (atI_nat (j := 0) rfl) ?_
        walk_at "ss"
        refine o_eqS rfl ?_
        walk_at "ss"
        refine iteT ?_
        walk_at "ss"
        refine g_tup (tup_of ea) rfl ?_
        walk_at "ss"
        refine ⟨p, rfl, hg.2, ?_⟩
        refine o_addS (lz (by rw [← app_len]; exact Nat.le_trans hl (by decide))) ?_
        exact q
      | item x i p =>
        obtain ⟨a, u, rfl, ea, ti⟩ := ex_item te
        have li := plain_len hg.2.1
        have lp := plusS_len hg.2.2
        have lx := (name_parts hg.1).2.1
        walk_at "ss"
        refine o_ixT (tup_of ea) (atI_nat (j := 0) rfl) ?_
        walk_at "ss"
        refine o_eqS rfl ?_
        walk_at "ss"
        refine iteF ?_
        walk_at "ss"
        refine o_ixT (tup_of ea) (atI_nat (j := 0) rfl) ?_
        walk_at "ss"
        refine o_eqS rfl ?_
        walk_at "ss"
        refine iteF ?_
        walk_at "ss"
        refine g_tup (tup_of ea) rfl ?_
        walk_at "ss"
        refine k_fS (lz (by omega)) ?_
        refine k_j (lz (by rw [app_len]; show 0 + _ ≤ _; omega)) ?_
        walk_at "ss"
        refine k_j (lz (by rw [app_len, app_len]; show 0 + _ + 1 ≤ _; omega)) ?_
        walk_at "ss"
        refine ⟨u, i, rfl, ti, hg.2.1.good, by have : dep i + 1 < n + 1 := hd; omega, ?_⟩
        refine k_fS (lz (by omega)) ?_
        refine k_j (lz (by rw [app_len, app_len, app_len]; show 0 + _ + 1 + _ ≤ _; omega)) ?_
        walk_at "ss"
        refine k_j (lz (by rw [app_len, app_len, app_len, app_len]; show 0 + _ + 1 + _ + 1 ≤ _; omega)) ?_
        walk_at "ss"
        refine ⟨p, rfl, hg.2.2, ?_⟩
        refine k_fS (lz (by omega)) ?_
        have e5 : Str.empty ++ x ++ ("[" : Str) ++ textE i ++ ("]" : Str) ++ plusS p = textE (.item x i p) := by
          refine str_ext ?_
          show (Str.empty ++ x ++ ("[" : Str) ++ textE i ++ ("]" : Str) ++ plusS p).cps.toList = (x ++ ("[" : Str) ++ textE i ++ ("]" : Str) ++ plusS p).cps.toList
          rw [app_tl, app_tl, app_tl, app_tl, app_tl, app_tl, app_tl, app_tl, app_tl]
          rfl
        refine k_j (by rw [e5]; exact lz (by omega)) ?_
        walk_at "ss"
        rw [e5]
        exact q
end
end K23
namespace K23
open PySem PySem.Spec PyProof.Rows L2 Wy WM W3 W4 W5 W7 W8

section
variable {P : Program} {w : World} {K : PySem.W.Frag} {mg : Str → Option Value} {base : Heap}
def spWhole : Sp := fun vs H Q _ => ∃ (v : V) (p : Addr) (ws : List Str) (t : Option (Cd × Nat)), vs = [v, .ref p] ∧ Tp H v (cD t) ∧ H p = some (.lst (ws.map V.str)) ∧ ∀ v, Tp H v (oC (wholeC t ws.length)) → Q v H
theorem k_whole (T : Tx w K mg) : C8.Cal P w K mg base 1 "_whole" spWhole [] := by
  refine cal_of (N := n_whole) T.d_whole sc_whole (fun _ _ F => F.bindsN fun _ _ _ _ _ _ us hl => match us, hl with | [_, _], _ => rfl) (fun vs H Q E h => ?_) (fun f cdv A outer s H vs Q E hr h => ?_)
  · obtain ⟨v, p, ws, t, rfl, _⟩ := h
    rfl
  · obtain ⟨v, p, ws, t, rfl, ht, e, q⟩ := h
    refine ⟨_, (pss_cons (ps_if (PW.pt (pw_or (pt_cmpR op_isN2 (pv 0) pe_non (nomark _)) (pw_or1 (pt_cmpR (op_ne2 hr.units : OpR _ _ (rNe2 K)) (pe_ix (ix_seq : IxR _ (rIx K)) (pv 0) pe_int (fun _ _ => rfl)) (pe_callB (call_len2 : CallR _ _ (rLn K)) (by rfl) T.z_len (by decide +kernel) (pa_cons (pv 1) pa_nil)) (nomark _))))) (pss_one (ps_ret pe_non)) pss_nil) (pss_one (ps_ret (pe_ix (ix_seq : IxR _ (rIx K)) (pv 0) pe_int (fun _ _ => rfl))))), ?_⟩
    walk_at "ss"
    cases t with
    | none =>
      obtain rfl := tp_none ht
      refine iteT ?_
      refine iteT ?_
      walk_at "ss"
      exact q _ .non
    | some r =>
      obtain ⟨x, j⟩ := r
      obtain ⟨a, x1, y1, rfl, ea, tx, ty⟩ := tp_pair ht
      obtain rfl := K23.tp_int ty
      unfold wholeC at q
      dsimp only at q
      refine iteF ?_
      walk_at "ss"
      refine o_ixT (tup_of ea) (atI_nat (j := 1) rfl) ?_
      walk_at "ss"
      refine b_lenL (lst_of e) ?_
      refine o_neS rfl ?_
      rw [List.length_map]
      walk_at "ss"
      by_cases hj : j = ws.length
      · rw [if_pos hj] at q
        rw [hj, decide_eq_true rfl]
        refine iteF ?_
        walk_at "ss"
        refine o_ixT (tup_of ea) (atI_nat (j := 0) rfl) ?_
        exact q _ tx
      · rw [if_neg hj] at q
        rw [decide_eq_false (fun h => hj (by have := V.int.inj h; omega))]
        refine iteT ?_
        walk_at "ss"
        exact q _ .non
theorem k_take_comparison (T : Tx w K mg) : C8.Cal P w K mg base 7 "_take_comparison" (spWs fun ws i => cD (takeCmp ws i)) [] := by
  refine cal_of (N := n_take_comparison) T.d_take_comparison sc_take_comparison (fun _ _ F => F.bindsN fun _ _ _ _ _ _ us hl => match us, hl with | [_, _], _ => rfl) spWs_len (fun f cdv A outer s H vs Q E hr h => ?_)
  obtain ⟨p, ws, i, rfl, e, sm, q⟩ := h
  dsimp only at q
  refine ⟨_, (pss_cons (ps_asg (C8.pe_c (k_take_expression T) hr (by first | decide | omega) (by rfl) (pa_cons (pv 0) (pa_cons (pv 1) pa_nil))) (pg_name (i := 2) sc_take_comparison.nd rfl (Or.inl rfl))) (pss_cons (ps_if (pt_cmpR op_isN2 (pv 2) pe_non (nomark _)) (pss_one (ps_ret pe_non)) pss_nil) (pss_cons (ps_asg (C8.pe_c (k_word_at T) hr (by first | decide | omega) (by rfl) (pa_cons (pv 0) (pa_cons (pe_ix (ix_seq : IxR _ (rIx K)) (pv 2) pe_int (fun _ _ => rfl)) pa_nil))) (pg_name (i := 3) sc_take_comparison.nd rfl (Or.inl rfl))) (pss_cons (ps_if (pt_cmpR (op_ni2 : OpR _ _ (rNi2 K)) (pv 3) (C8.pe_gc (by rfl) T.g_SIGNS) (by rfl)) (pss_one (ps_ret pe_non)) pss_nil) (pss_cons (ps_asg (C8.pe_c (k_take_expression T) hr (by first | decide | omega) (by rfl) (pa_cons (pv 0) (pa_cons (pe_op op_add3 (pe_ix (ix_seq : IxR _ (rIx K)) (pv 2) pe_int (fun _ _ => rfl)) pe_int) pa_nil))) (pg_name (i := 4) sc_take_comparison.nd rfl (Or.inl rfl))) (pss_one (ps_ret (pe_ifExp (pt_cmpR op_isN2 (pv 4) pe_non (nomark _)) pe_non (pe_tup (pa_cons (pe_tup (pa_cons pe_str (pa_cons (pv 3) (pa_cons (pe_ix (ix_seq : IxR _ (rIx K)) (pv 2) pe_int (fun _ _ => rfl)) (pa_cons (pe_ix (ix_seq : IxR _ (rIx K)) (pv 4) pe_int (fun _ _ => rfl)) pa_nil))))) (pa_cons (pe_ix (ix_seq : IxR _ (rIx K)) (pv 4) pe_int (fun _ _ => rfl)) pa_nil))))))))))), ?_⟩
  unfold takeCmp at q
  walk_at "ss"
  refine ⟨p, ws, i, rfl, e, sm, fun v H1 s1 t1 => ?_⟩
  dsimp only at t1
  cases hl : takeExpr ws i with
  | none =>
    rw [hl] at q t1
    obtain rfl := tp_none t1
    walk_at "ss"
    refine iteT ?_
    walk_at "ss"
    exact q _ H1 s1 .non
  | some r =>
    obtain ⟨l, j⟩ := r
    rw [hl] at q t1
    dsimp only at q
    obtain ⟨a, x1, y1, rfl, ea, tx, ty⟩ := tp_pair t1
    obtain rfl := K23.tp_int ty
    walk_at "ss"
    refine iteF ?_
    walk_at "ss"
    refine o_ixT (tup_of ea) (atI_nat (j := 1) rfl) ?_
    walk_at "ss"
    refine ⟨p, ws, j, rfl, s1 _ _ e, sm, fun v2 H2 s2 t2 => ?_⟩
    cases t2
    walk_at "ss"
    refine o_niT (T.t_SIGNS _) rfl (by decide +kernel) ?_
    walk_at "ss"
    rw [show inV (.str (wordAt ws j)) c_SIGNS = decide (wordAt ws j ∈ SIG) from inV_list (l := SIG)]
    have ea2 := s2 _ _ ea
    by_cases hs : wordAt ws j ∈ SIG
    · rw [if_pos hs] at q
      rw [decide_eq_true hs]
      refine iteF ?_
      walk_at "ss"
      refine o_ixT (tup_of ea2) (atI_nat (j := 1) rfl) ?_
      walk_at "ss"
      refine ⟨p, ws, j + 1, rfl, s2 _ _ (s1 _ _ e), sm, fun v3 H3 s3 t3 => ?_⟩
      dsimp only at t3
      cases hr2 : takeExpr ws (j + 1) with
      | none =>
        rw [hr2] at q t3
        obtain rfl := tp_none t3
        walk_at "ss"
        refine iteT ?_
        walk_at "ss"
        exact q _ H3 ((s1.trans s2).trans s3) .non
      | some r2 =>
        obtain ⟨r, k⟩ := r2
        rw [hr2] at q t3
        obtain ⟨a3, x3, y3, rfl, ea3, tx3, ty3⟩ := tp_pair t3
        obtain rfl := K23.tp_int ty3
        have ea' := s3 _ _ ea2
        walk_at "ss"
        refine iteF ?_
        walk_at "ss"
        refine o_ixT (tup_of ea') (atI_nat (j := 0) rfl) ?_
        walk_at "ss"
        refine o_ixT (tup_of ea3) (atI_nat (j := 0) rfl) ?_
        walk_at "ss"
        refine n_obj (lz (by simp)) fun p4 H4 n4 s4 e4 => ?_
        walk_at "ss"
        refine o_ixT (tup_of (s4 _ _ ea3)) (atI_nat (j := 1) rfl) ?_
        walk_at "ss"
        refine n_obj (lz (by simp)) fun p5 H5 n5 s5 e5 => ?_
        refine q _ H5 ((((s1.trans s2).trans s3).trans s4).trans s5) (pair_tp e5 ?_ (.int _))
        rw [Cd.d]
        exact .tup (s5 _ _ e4) (.cons (.str _) (.cons (.str _) (.cons ((((tx.tk s2.tk).tk s3.tk).tk s4.tk).tk s5.tk) (.cons ((tx3.tk s4.tk).tk s5.tk) .nil))))
    · rw [if_neg hs] at q
      rw [decide_eq_false hs]
      refine iteT ?_
      walk_at "ss"
      exact q _ H2 (s1.trans s2) .non
end
end K23
namespace K23
open PySem PySem.Spec PyProof.Rows L2 Wy WM W3 W4 W5 W7 W8 W9 W10 W6

-- IH write_condition _write_below ihB
-- IH _write_below write_condition ihC
-- REC write_expression 2
section
variable {P : Program} {w : World} {K : PySem.W.Frag} {mg : Str → Option Value} {base : Heap}
def spWC (m : Nat) : Sp := fun vs H Q _ => ∃ (v : V) (c : Cd) (n : Nat), vs = [v] ∧ Tp H v c.d ∧ okC c ∧ dp n c ∧ 2 * n < m ∧ wt c ≤ 100000 ∧ ∀ H', Same H H' → Q (.str (textC c)) H'
def spWB (m : Nat) : Sp := fun vs H Q _ => ∃ (key : Str) (o : Bool) (v : V) (c : Cd) (n : Nat), vs = [.str key, v] ∧ (key = "not" ∧ o = false ∨ key = jw o) ∧ Tp H v c.d ∧ okC c ∧ dp n c ∧ 2 * n + 1 < m ∧ wt c ≤ 100000 ∧ ∀ H', Same H H' → Q (.str (wrap (needB o c) (textC c))) H'
theorem k_write_below' (T : Tx w K mg) (m : Nat) (ihC : C8.Cal P w K mg base (m + 4) "write_condition" (spWC m) []) : C8.Cal P w K mg base (m + 1 + 4) "_write_below" (spWB (m + 1)) [] := by
  refine cal_of (N := n_write_below) T.d_write_below sc_write_below (fun _ _ F => F.bindsN fun _ _ _ _ _ _ us hl => match us, hl with | [_, _], _ => rfl) (fun vs H Q E h => ?_) (fun f cdv A outer s H vs Q E hr h => ?_)
  · obtain ⟨key, o, v, c, n, rfl, _⟩ := h
    rfl
  obtain ⟨key, o, v, c, n, rfl, hkey, tv, ok, hd, hm, hw, q⟩ := h
  refine ⟨_, (pss_cons (ps_asg (C8.pe_c ihC hr (by first | decide | omega) (by rfl) (pa_cons (pv 1) pa_nil)) (pg_name (i := 2) sc_write_below.nd rfl (Or.inl rfl))) (pss_one (ps_ret (pe_ifExp (pt_cmpR (op_in2 : OpR _ _ (rIn2 K)) (pe_ix (ix_seq : IxR _ (rIx K)) (pv 1) pe_int (fun _ _ => rfl)) (W6.pe_kd (T.k_PARENTHESES_BELOW).choose_spec.choose_spec (C8.pe_gc (by rfl) T.g_PARENTHESES_BELOW) (pv 0) (fun _ _ => rfl)) (by rfl)) (pe_joined2 (PJ.cons pe_str (PJ.cons (pe_fmt (pv 2)) (PJ.cons pe_str PJ.nil)))) (pv 2))))), ?_⟩
  obtain ⟨a, xs, rfl, ea, e0⟩ := cd_first tv
  have hl := text_len ok
  walk_at "ss"
  refine ⟨_, c, n, rfl, tv, ok, hd, by omega, hw, fun H1 s1 => ?_⟩
  walk_at "ss"
  refine o_ixT (tup_of (s1 _ _ ea)) (atI_nat (j := 0) e0) ?_
  walk_at "ss"
  obtain ⟨t, et, st⟩ : ∃ t, PySem.W.nsIn K (He.ga K "PARENTHESES_BELOW") key = some (some (.ref t)) ∧ ∀ H, SqT K H t ((if o then (["or"] : List Str) else ["and", "or"]).map V.str) := by
    rcases hkey with ⟨rfl, rfl⟩ | rfl
    · exact T.v_PARENTHESES_BELOW_not
    · cases o
      · exact T.v_PARENTHESES_BELOW_and
      · exact T.v_PARENTHESES_BELOW_or
  refine o_kd et ?_
  refine o_inT (st _) rfl (by cases o <;> decide +kernel) ?_
  walk_at "ss"
  rw [need_in]
  cases hn : needB o c with
  | true =>
    rw [hn] at q
    refine iteT ?_
    walk_at "ss"
    refine k_j (lz (by decide)) ?_
    walk_at "ss"
    refine k_fS (Nat.le_trans hl (Nat.le_trans hw (by decide))) ?_
    refine k_j (by rw [app_len]; show 0 + 1 + _ ≤ _; exact Nat.le_trans (Nat.add_le_add_left (Nat.le_trans hl hw) _) (by decide)) ?_
    walk_at "ss"
    refine k_j (by rw [app_len, app_len]; show 0 + 1 + _ + 1 ≤ _; exact Nat.le_trans (Nat.add_le_add_right (Nat.add_le_add_left (Nat.le_trans hl hw) _) _) (by decide)) ?_
    walk_at "ss"
    have e5 : Str.empty ++ ("(" : Str) ++ textC c ++ (")" : Str) = wrap true (textC c) := by
      refine str_ext ?_
      show _ = (("(" : Str) ++ textC c ++ (")" : Str)).cps.toList
      rw [app_tl, app_tl, app_tl, app_tl, app_tl]
      rfl
    rw [e5]
    exact q H1 s1
  | false =>
    rw [hn] at q
    refine iteF ?_
    walk_at "ss"
    exact q H1 s1
theorem k_write_condition' (T : Tx w K mg) (m : Nat) (ihB : C8.Cal P w K mg base (m + 4) "_write_below" (spWB m) []) : C8.Cal P w K mg base (m + 1 + 4) "write_condition" (spWC (m + 1)) [] := by
  refine cal_of (N := n_write_condition) T.d_write_condition sc_write_condition (fun _ _ F => F.bindsN fun _ _ _ _ _ _ us hl => match us, hl with | [_], _ => rfl) (fun vs H Q E h => ?_) (fun f cdv A outer s H vs Q E hr h => ?_)
  · obtain ⟨v, c, n, rfl, _⟩ := h
    rfl
  obtain ⟨v, c, n, rfl, tv, ok, hd, hm, hw, q⟩ := h
  have hl := text_len ok
  refine ⟨_, (pss_cons (ps_if (pt_cmpR (op_eq2 hr.units : OpR _ _ (rEq2 K)) (pe_ix (ix_seq : IxR _ (rIx K)) (pv 0) pe_int (fun _ _ => rfl)) pe_str (nomark _)) (pss_cons (ps_asg (pv 0) (pg_tup (by rfl) (pgs_cons (pg_name (i := 1) sc_write_condition.nd rfl (Or.inl rfl)) (pgs_cons (pg_name (i := 2) sc_write_condition.nd rfl (Or.inl rfl)) (pgs_cons (pg_name (i := 3) sc_write_condition.nd rfl (Or.inl rfl)) (pgs_cons (pg_name (i := 4) sc_write_condition.nd rfl (Or.inl rfl)) pgs_nil)))) : PG _ _ (gTup K _ _))) (pss_one (ps_ret (pe_joined2 (PJ.cons (pe_fmt (C8.pe_c (k_write_expression T 2) hr (by first | decide | omega) (by rfl) (pa_cons (pv 3) pa_nil))) (PJ.cons pe_str (PJ.cons (pe_fmt (pv 2)) (PJ.cons pe_str (PJ.cons (pe_fmt (C8.pe_c (k_write_expression T 2) hr (by first | decide | omega) (by rfl) (pa_cons (pv 4) pa_nil))) PJ.nil))))))))) pss_nil) (pss_cons (ps_if (pt_cmpR (op_eq2 hr.units : OpR _ _ (rEq2 K)) (pe_ix (ix_seq : IxR _ (rIx K)) (pv 0) pe_int (fun _ _ => rfl)) pe_str (nomark _)) (pss_one (ps_ret (pe_op op_add3 pe_str (C8.pe_c ihB hr (by first | decide | omega) (by rfl) (pa_cons pe_str (pa_cons (pe_ix (ix_seq : IxR _ (rIx K)) (pv 0) pe_int (fun _ _ => rfl)) pa_nil)))))) pss_nil) (pss_cons (ps_asg (pv 0) (pg_tup (by rfl) (pgs_cons (pg_name (i := 5) sc_write_condition.nd rfl (Or.inr rfl)) (pgs_cons (pg_name (i := 6) sc_write_condition.nd rfl (Or.inl rfl)) pgs_nil)) : PG _ _ (gTup K _ _))) (pss_cons (ps_asg (pe_joined2 (PJ.cons pe_str (PJ.cons (pe_fmt (pv 5)) (PJ.cons pe_str PJ.nil)))) (pg_name (i := 7) sc_write_condition.nd rfl (Or.inl rfl))) (pss_one (ps_ret (pe_join2 (pv 7) (pe_lc (own := [("part", 8)]) (g := gName 8) (by rfl) sc_write_condition.nd (pi_tup (pv 6) : PI _ _ _ (iTup K _)) (blkOk_by (own := [("part", 8)]) (N := n_write_condition) (sc := defScope s_write_condition) (by decide +kernel)) (fun _ _ _ _ _ => pg_name (i := 8) sc_write_condition.nd rfl (Or.inl rfl)) (fun _ _ _ _ _ => pts_nil) (fun _ _ _ _ _ => (C8.pe_c ihB hr (by first | decide | omega) (by rfl) (pa_cons (pv 5) (pa_cons (pv 8) pa_nil))))) : PE _ _ (tM1 (rJoin K) _ _)))))))), ?_⟩
  cases c with
  | cmp sg l r =>
    rw [okC] at ok
    have ll := good_len ok.2.1
    have lr := good_len ok.2.2
    have ls := sig_len ok.1
    obtain ⟨a, u, x, rfl, ea, tu, tx⟩ := cd_cmp tv
    walk_at "ss"
    refine o_ixT (tup_of ea) (atI_nat (j := 0) rfl) ?_
    walk_at "ss"
    refine o_eqS rfl ?_
    walk_at "ss"
    refine iteT ?_
    walk_at "ss"
    refine g_tup (tup_of ea) rfl ?_
    walk_at "ss"
    refine ⟨u, l, rfl, tu, ok.2.1, by have := good_dep ok.2.1; omega, ?_⟩
    refine k_fS (lz (by omega)) ?_
    refine k_j (lz (by rw [app_len]; show 0 + _ ≤ _; omega)) ?_
    walk_at "ss"
    refine k_j (lz (by rw [app_len, app_len]; show 0 + _ + 1 ≤ _; omega)) ?_
    walk_at "ss"
    refine k_fS (lz (by omega)) ?_
    refine k_j (lz (by rw [app_len, app_len, app_len]; show 0 + _ + 1 + _ ≤ _; omega)) ?_
    walk_at "ss"
    refine k_j (lz (by rw [app_len, app_len, app_len, app_len]; show 0 + _ + 1 + _ + 1 ≤ _; omega)) ?_
    walk_at "ss"
    refine ⟨x, r, rfl, tx, ok.2.2, by have := good_dep ok.2.2; omega, ?_⟩
    refine k_fS (lz (by omega)) ?_
    refine k_j (lz (by rw [app_len, app_len, app_len, app_len, app_len]; show 0 + _ + 1 + _ + 1 + _ ≤ _; omega)) ?_
    walk_at "ss"
    have e5 : Str.empty ++ textE l ++ (" " : Str) ++ sg ++ (" " : Str) ++ textE r = textC (.cmp sg l r) := by
      rw [textC]
      refine str_ext ?_
      rw [app_tl, app_tl, app_tl, app_tl, app_tl, app_tl, app_tl, app_tl, app_tl]
      rfl
    rw [e5]
    exact q H (Same.refl H)
  | no c =>
    rw [okC] at ok
    rw [wt] at hw
    obtain ⟨n, rfl, hd⟩ := dp_no hd
    obtain ⟨a, u, rfl, ea, tu⟩ := cd_no tv
    walk_at "ss"
    refine o_ixT (tup_of ea) (atI_nat (j := 0) rfl) ?_
    walk_at "ss"
    refine o_eqS rfl ?_
    walk_at "ss"
    refine iteF ?_
    walk_at "ss"
    refine o_ixT (tup_of ea) (atI_nat (j := 0) rfl) ?_
    walk_at "ss"
    refine o_eqS rfl ?_
    walk_at "ss"
    refine iteT ?_
    walk_at "ss"
    refine o_ixT (tup_of ea) (atI_nat (j := 1) rfl) ?_
    walk_at "ss"
    refine ⟨"not", false, u, c, n, rfl, .inl ⟨rfl, rfl⟩, tu, ok, hd, by omega, by omega, fun H1 s1 => ?_⟩
    have hc := text_len ok
    have hwr := wrap_len (needB false c) (textC c)
    refine o_addS (by show 4 + _ ≤ _; exact Nat.le_trans (show 4 + (wrap (needB false c) (textC c)).length ≤ 200000 by omega) (by decide)) ?_
    have e5 : ("not " : Str) ++ wrap (needB false c) (textC c) = textC (.no c) := by
      rw [textC]
      refine str_ext ?_
      rw [app_tl, app_tl, app_tl]
      rfl
    rw [e5]
    exact q H1 s1
  | jn o cs =>
    rw [okC] at ok
    rw [wt] at hw
    obtain ⟨n, rfl, hd⟩ := dp_jn hd
    obtain ⟨a, b, us, rfl, ea, eb, tu⟩ := cd_jn tv
    have hjl := jw_len o
    walk_at "ss"
    refine o_ixT (tup_of ea) (atI_nat (j := 0) rfl) ?_
    walk_at "ss"
    refine o_eqS rfl ?_
    rw [show decide (V.str (jw o) = V.str "cmp") = false by cases o <;> rfl]
    walk_at "ss"
    refine iteF ?_
    walk_at "ss"
    refine o_ixT (tup_of ea) (atI_nat (j := 0) rfl) ?_
    walk_at "ss"
    refine o_eqS rfl ?_
    rw [show decide (V.str (jw o) = V.str "not") = false by cases o <;> rfl]
    walk_at "ss"
    refine iteF ?_
    walk_at "ss"
    refine g_tup (tup_of ea) rfl ?_
    walk_at "ss"
    refine k_j (lz (by decide)) ?_
    walk_at "ss"
    refine k_fS (lz (by omega)) ?_
    refine k_j (lz (by rw [app_len]; show 0 + 1 + _ ≤ _; omega)) ?_
    walk_at "ss"
    refine k_j (lz (by rw [app_len, app_len]; show 0 + 1 + _ + 1 ≤ _; omega)) ?_
    walk_at "ss"
    have e5 : Str.empty ++ (" " : Str) ++ jw o ++ (" " : Str) = (" " : Str) ++ jw o ++ (" " : Str) := by
      refine str_ext ?_
      rw [app_tl, app_tl, app_tl, app_tl, app_tl]
      rfl
    rw [e5]
    refine k_t (tup_of eb) ?_
    have lus : us.length = cs.length := by rw [tu.length, ds_len]
    refine c_tup (xs := us) (fun D i H1 => Same H H1 ∧ H1 D = some (.lst (((textsC o cs).take i).map V.str))) (fun D H1 nD s1 e1 => ⟨s1, e1⟩) (fun D i H1 hi nD p => tup_of (p.1 _ _ eb)) (fun D i x H1 hx nD p => ?_) (fun D H1 nD p => ?_)
    · obtain ⟨s1, e1⟩ := p
      obtain ⟨c, hc, tc⟩ := part_at tu hx
      have hi := (List.getElem?_eq_some_iff.mp hx).1
      have hwg := wts_get hc
      have hlen : cs.length ≤ 100000 := by
        have := texts_len o ok.2
        omega
      walk_at "ss"
      refine ⟨rfl, ?_⟩
      walk_at "ss"
      refine iteT ?_
      walk_at "ss"
      refine ⟨jw o, o, x, c, n, rfl, .inr rfl, tc.tk s1.tk, oks_get ok.2 hc, dps_get hd hc, by omega, by omega, fun H2 s2 => ?_⟩
      refine c_out (s2 _ _ e1) (by rw [List.length_map, List.length_take, texts_count]; exact small1000' (by omega)) fun H3 c3 e3 => ⟨c3.same (s1.trans s2) nD, ?_⟩
      rw [e3, texts_get o hc, List.map_append]
      rfl
    · obtain ⟨s1, e1⟩ := p
      rw [lus, ← texts_count o cs, List.take_length] at e1
      walk_at "ss"
      have hs := texts_len o ok.2
      refine m_join (lst_of e1) (by rw [texts_count, app_len, app_len]; show _ + cs.length * (1 + (jw o).length + 1) ≤ _; have : cs.length * (1 + (jw o).length + 1) ≤ cs.length * 5 := Nat.mul_le_mul_left _ (by omega); omega) ?_
      rw [join_joinS]
      rw [textC] at q
      exact q H1 s1
theorem spWC_no (vs : List V) (H : Hp) (Q : VK) (E : XK) : ¬ spWC 0 vs H Q E := by
  rintro ⟨_, _, _, _, _, _, _, h, _⟩
  omega
theorem spWB_no (vs : List V) (H : Hp) (Q : VK) (E : XK) : ¬ spWB 0 vs H Q E := by
  rintro ⟨_, _, _, _, _, _, _, _, _, _, h, _⟩
  omega
theorem k_write_both (T : Tx w K mg) : ∀ m : Nat, C8.Cal P w K mg base (m + 4) "write_condition" (spWC m) [] ∧ C8.Cal P w K mg base (m + 4) "_write_below" (spWB m) []
  | 0 => ⟨cal_never (ps := ["condition"]) T.d_write_condition (fun _ _ F => F.bindsN fun _ _ _ _ _ _ us hl => match us, hl with | [_], _ => rfl) spWC_no, cal_never (ps := ["word", "part"]) T.d_write_below (fun _ _ F => F.bindsN fun _ _ _ _ _ _ us hl => match us, hl with | [_, _], _ => rfl) spWB_no⟩
  | m + 1 => ⟨k_write_condition' T m (k_write_both T m).2, k_write_below' T m (k_write_both T m).1⟩
theorem k_write_condition (T : Tx w K mg) : C8.Cal P w K mg base 16 "write_condition" (spWC 12) [] := (k_write_both T 12).1
end
end K23
local macro_rules | `(tactic| walk_at "trZ") => `(tactic| first | assumption | exact lst_of (by assumption) | exact tup_of (by assumption) | (refine L2.Same.seq (by assumption) ?_; walk_at "trZ") | (refine seqT (by assumption) ?_; walk_at "trZ"))
local macro_rules | `(tactic| walk_at "sZ") => `(tactic| with_reducible first
  | refine s_seq ?_ | refine s_asg ?_ | refine g_name ?_ | refine s_ret ?_ | refine s_retN ?_ | refine s_drop ?_ | refine s_if ?_ | refine s_next ?_ | refine s_brk ?_ | refine s_ct ?_ | refine s_for ?_
  | (apply e_var; with_unfolding_all rfl) | refine e_c ?_ | refine e_op ?_ | refine e_un ?_ | refine a_cons ?_ | refine a_nil ?_ | refine c_b ?_ | refine c_call ?_ | refine t_test ?_ | refine k_bl ?_ | refine t_b ?_ | refine t_tr ?_ | refine k_trB ?_ | refine k_trN ?_ | refine k_trI ?_
  | refine t_and ?_ | refine t_or ?_ | refine t_not ?_ | refine e_andV ?_ | refine e_orV ?_ | refine e_notV ?_ | refine e_if ?_ | refine e_chain ?_ | refine e_tup ?_ | refine e_lst ?_ | refine e_sl ?_ | refine p_no ?_ | refine p_so ?_ | refine k_int ?_
  | refine m_bm ?_ | refine g_sub ?_ | refine m_m1 ?_ | refine m_st ?_ | refine e_lc ?_ | refine t_yes ?_ | refine w_r1 ?_ | refine w_r2 ?_ | refine w_l ?_ | refine w_t ?_ | refine w_s ?_ | refine k_s ?_
  | (apply s_aug; with_unfolding_all rfl) | refine i_add ?_ | refine o_addI ?_ | refine o_I0 ?_ | refine b_int ?_ | refine b_intB ?_ | refine b_abs ?_ | refine u_neg ?_ | refine o_isN ?_ | refine o_ntN ?_ | refine o_inS ?_ | refine o_niS ?_
  | refine g_cons ?_ | refine g_nil ?_ | refine e_joined ?_ | refine j_nil ?_ | refine j_cons ?_ | refine e_fmt ?_
  | refine WD.e_dget ?_ | refine WD.s_dput ?_
  | (refine o_mod ?_ ?_; omega) | (refine o_fdiv ?_ ?_ ?_; omega; omega) | (refine o_pow ?_ ?_ ?_ ?_; omega; omega; omega) | (refine o_mulI2 ?_ ?_ ?_; omega; omega) | (refine o_mulI1 ?_ ?_ ?_; omega; omega)
  | (refine WN.o_fdW ?_ ?_ ?_; omega; omega))
local macro_rules | `(tactic| walk_at "ssZ") => `(tactic| repeat walk_at "sZ")
local macro_rules | `(tactic| walk_at "neZ") => `(tactic| first | assumption | exact Ne.symm (by assumption) | exact WN.ne_new (by assumption) (by walk_at "hp0Z") | exact Ne.symm (WN.ne_new (by assumption) (by walk_at "hp0Z")))
local macro_rules | `(tactic| walk_at "hp0Z") => `(tactic| first | assumption | (refine WN.sm (by assumption) ?_; walk_at "hp0Z"))
local macro_rules | `(tactic| walk_at "hpZ") => `(tactic| first | assumption | (refine WN.sm (by assumption) ?_; walk_at "hpZ") | (refine WN.cm (by assumption) (by walk_at "neZ") ?_; walk_at "hpZ"))
local macro_rules | `(tactic| walk_at "sqZ") => `(tactic| first | assumption | exact lst_of (by walk_at "hpZ") | exact tup_of (by walk_at "hpZ") | (refine L2.Same.seq (by assumption) ?_; walk_at "sqZ") | (refine seqT (by assumption) ?_; walk_at "sqZ"))
local macro_rules | `(tactic| walk_at "saZ") => `(tactic| first | assumption | exact L2.Same.refl _ | (refine L2.Same.trans ?_ (by assumption); walk_at "saZ"))
local macro_rules | `(tactic| walk_at "tyZ") => `(tactic| first | exact .base (.int _) | exact .base (.bl _) | exact .base .non | exact .base (.str _) | exact .base (.lst (by walk_at "hpZ")) | exact .base (.tup (by walk_at "hpZ")))
local macro_rules | `(tactic| walk_at "xZ") => `(tactic| with_reducible first
  | walk_at "sZ"
  | (refine n_obj ?_ (fun _ _ _ _ _ => ?_); exact lz (Nat.le_of_ble_eq_true rfl))
  | (apply o_ixT; walk_at "sqZ"; with_unfolding_all rfl)
  | (apply o_ixL; walk_at "sqZ"; with_unfolding_all rfl)
  | (apply g_tup; walk_at "sqZ"; with_unfolding_all rfl)
  | (apply l_L; walk_at "sqZ"; intro _ _ _ _ _)
  | (refine k_r1 ?_ ?_ ?_; omega; omega)
  | refine WN.b_mx ?_ | refine WN.b_mn ?_
  | (apply k_l; walk_at "sqZ") | (apply k_t; walk_at "sqZ")
  | (apply WS.b_lenT2; walk_at "sqZ") | (apply WS.b_lenT3; walk_at "sqZ")
  | (apply WN.b_is2 (b := true); walk_at "tyZ"; exact L2.kit_ty (by decide +kernel)) | (apply WN.b_is2 (b := false); walk_at "tyZ"; exact L2.kit_ty (by decide +kernel))
  | refine L2.iteT ?_ | refine L2.iteF ?_
  | (refine WN.iteTT ?_ ?_; first | decide +kernel | exact WN.nNRN _ | exact WN.nNIN _ | exact WN.nNSN _ | exact WN.nNBN _)
  | (refine WN.iteFF ?_ ?_; first | decide +kernel | exact WN.nRN _ | exact WN.nIN _ | exact WN.nSN _ | exact WN.nBN _)
  | (refine o_eqS ?_ ?_; with_unfolding_all rfl) | (refine o_neS ?_ ?_; with_unfolding_all rfl))
local macro_rules | `(tactic| walk_at "xxZ") => `(tactic| repeat walk_at "xZ")
local macro_rules | `(tactic| walk_at "frZ") => `(tactic| first | assumption | exact WN.free_of (by assumption) (by walk_at "saZ"))
local macro_rules | `(tactic| walk_at "tpZ") => `(tactic| first | exact .nil | exact .int _ | exact .bl _ | exact .str _ | exact .non | (refine .cons ?_ ?_ <;> walk_at "tpZ") | (refine .tup (by walk_at "hpZ") ?_; walk_at "tpZ"))
local macro_rules | `(tactic| walk_at "xZ") => `(tactic| with_reducible first
  | refine WO.e_fld ?_ | refine WO.s_fld ?_ | refine WO.e_meth ?_ | refine WO.e_make ?_ | refine WC.a_star ?_ | refine WE.e_revL ?_ | (apply WE.k_rev; walk_at "hpZ"; intro _ _ _ _ _)
  | (apply WO.k_fld; walk_at "hpZ"; assumption; assumption; with_unfolding_all rfl)
  | (apply WO.k_meth; walk_at "hpZ"; with_unfolding_all rfl)
  | refine WO.b_boolB ?_ | (apply WO.o_tup0; walk_at "hpZ") | (apply WO.o_tup1; walk_at "hpZ") | refine WO.w_zip ?_ | refine WO.w_enum ?_)
namespace K23
open PySem PySem.Spec PyProof.Rows L2 Wy WN WQ WS

section
variable {P : Program} {w : World} {K : PySem.W.Frag} {mg : Str → Option Value} {base : Heap}
theorem k_law_take (T : Tx w K mg) : C8.Cal P w K mg base 1 "_law_take" spTake [] := by
  refine cal_of (N := n_law_take) T.d_law_take sc_law_take (fun _ _ F => F.bindsN fun _ _ _ _ _ _ us hl => match us, hl with | [_, _], _ => rfl) (fun vs H Q E h => ?_) (fun f cdv A outer s H vs Q E hr h => ?_)
  · obtain ⟨a, d, m, rfl, _⟩ := h
    rfl
  · obtain ⟨a, d, m, rfl, hh, hm, q⟩ := h
    have nd := hh.ne
    obtain ⟨n, ds, h1, h2, h3⟩ := hh
    refine ⟨_, (pss_cons (ps_asg (pe_ix (ix_seq : IxR _ (rIx K)) (pv 0) pe_int (fun _ _ => rfl)) (pg_name (i := 2) sc_law_take.nd rfl (Or.inl rfl))) (pss_cons (ps_asg (pe_op op_add3 (pv 2) pe_int) (pg_sub (pv 0) pe_int set_list)) (pss_cons (ps_asg (pe_ix (ix_seq : IxR _ (rIx K)) (pv 0) pe_int (fun _ _ => rfl)) (pg_name (i := 3) sc_law_take.nd rfl (Or.inl rfl))) (pss_cons (ps_if (pt_cmpR op_ge (pv 2) (pe_callB (call_len2 : CallR _ _ (rLn K)) (by rfl) T.z_len (by decide +kernel) (pa_cons (pv 3) pa_nil)) (nomark _)) (pss_one (ps_ret pe_int)) pss_nil) (pss_one (ps_ret (pe_op op_mod (pe_op op_fdiv (pe_callTy call_int2 (by rfl) T.z_int (by decide +kernel) (pa_cons (pe_ix (ix_seq : IxR _ (rIx K)) (pv 3) (pv 2) (fun _ _ => rfl)) pa_nil)) pe_int) (pv 1)))))))), ?_⟩
    walk_at "ssZ"
    refine o_ixL (lst_of h1) (atI_nat (j := 1) rfl) ?_
    walk_at "ssZ"
    refine st_L h1 (j := 1) rfl fun H2 c2 e2 => ?_
    have h3' := c2.at h3 nd
    walk_at "ssZ"
    refine o_ixL (lst_of e2) (atI_nat (j := 0) rfl) ?_
    walk_at "ssZ"
    refine b_lenL (lst_of h3') ?_
    walk_at "ssZ"
    refine ite2 (fun e => ?_) (fun e => ?_)
    · walk_at "ssZ"
      exact q 0 H2 (Int.le_refl 0) hm c2 ⟨n + 1, ds, e2, by omega, h3'⟩
    · have e := of_decide_eq_false (Bool.eq_false_iff.mpr e)
      rw [List.length_map] at e
      have g : (ds.map V.int)[n.toNat]? = some (.int ds[n.toNat]) := by
        rw [List.getElem?_map, List.getElem?_eq_getElem (by omega)]
        rfl
      walk_at "ssZ"
      refine o_ixL (lst_of h3') (atI_of (j := n.toNat) (by omega) g) ?_
      walk_at "ssZ"
      exact q _ H2 (Int.emod_nonneg _ (by omega)) (Int.emod_lt_of_pos _ hm) c2 ⟨n + 1, ds, e2, by omega, h3'⟩
def spHandDr (K : PySem.W.Frag) : Sp := fun vs H Q _ => ∃ (a : Addr) (ns : List Int) (m : Int), vs = [.ref a, .int m] ∧ SqL K H a (ns.map V.int) ∧ ns.length ≤ 63 ∧ 0 ≤ m ∧ m ≤ 10000 ∧ ∀ p H' ds, Same H H' → H p = none → H' p = some (.lst ((ds : List Int).map V.int)) → Q (.ref p) H'
theorem k_law_draws (T : Tx w K mg) : C8.Cal P w K mg base 1 "_law_draws" (spHandDr K) [] := by
  refine cal_of (N := n_law_draws) T.d_law_draws sc_law_draws (fun _ _ F => F.bindsN fun _ _ _ _ _ _ us hl => match us, hl with | [_, _], _ => rfl) (fun vs H Q E h => ?_) (fun f cdv A outer s H vs Q E hr h => ?_)
  · obtain ⟨a, ns, m, rfl, _⟩ := h
    rfl
  · obtain ⟨a, ns, m, rfl, hS, hl, h0, hm, q⟩ := h
    refine ⟨_, (pss_cons (ps_setLc (i := 3) (own := [("cell", 2)]) (g := gName 2) (by rfl) sc_law_draws.nd rfl rfl (sw_true rfl rfl rfl (by decide +kernel)) (pi_list (pv 0) : PI _ _ _ (iList K _)) (blkOk_by (own := [("cell", 2)]) (N := n_law_draws) (sc := defScope s_law_draws) (by decide +kernel)) (fun _ _ _ _ _ => pg_name (i := 2) sc_law_draws.nd rfl (Or.inl rfl)) (fun _ _ _ _ _ => pts_nil) (fun _ _ _ _ _ => (pe_callB call_abs2 (by rfl) T.z_abs (by decide +kernel) (pa_cons (pe_callTy call_int2 (by rfl) T.z_int (by decide +kernel) (pa_cons (pv 2) pa_nil)) pa_nil)))) (pss_cons (ps_asg (pe_lst pa_nil) (pg_name (i := 4) sc_law_draws.nd rfl (Or.inl rfl))) (pss_cons (ps_for PassesOwn.never rfl (pi_range1 (by rfl) T.z_range (pa_cons (pv 1) pa_nil)) (pg_name (i := 5) sc_law_draws.nd rfl (Or.inl rfl)) (pss_cons (ps_asg (pv 5) (pg_name (i := 2) sc_law_draws.nd rfl (Or.inl rfl))) (C8.pss_cut (ps_if (pt_cmpR op_gt (pe_callB (call_len2 : CallR _ _ (rLn K)) (by rfl) T.z_len (by decide +kernel) (pa_cons (pv 0) pa_nil)) pe_int (nomark _)) (pss_cons (ps_asg (pe_op op_mod (pv 5) (pe_callB (call_len2 : CallR _ _ (rLn K)) (by rfl) T.z_len (by decide +kernel) (pa_cons (pv 0) pa_nil))) (pg_name (i := 6) sc_law_draws.nd rfl (Or.inl rfl))) (pss_cons (ps_asg (pe_callTy call_int2 (by rfl) T.z_int (by decide +kernel) (pa_cons (pe_ix (ix_seq : IxR _ (rIx K)) (pv 0) (pv 6) (fun _ _ => rfl)) pa_nil)) (pg_name (i := 2) sc_law_draws.nd rfl (Or.inl rfl))) (pss_one (ps_if (PW.pt (pw_and (pt_cmpR op_ge (pv 2) (pe_op op_pow pe_int pe_int) (nomark _)) (pw_and1 (pt_cmpR op_gt (pe_ix (ix_seq : IxR _ (rIx K)) (pv 3) (pv 6) (fun _ _ => rfl)) pe_int (nomark _))))) (pss_cons (ps_expr (pe_bm PySem.F.plainAttrs_list PySem.F.slot_list_append PySem.F.type_list_append mt_append (pv 4) (pa_cons (pe_op op_mod (pe_callTy call_int2 (by rfl) T.z_int (by decide +kernel) (pa_cons (pe_ix (ix_seq : IxR _ (rIx K)) (pv 3) (pv 6) (fun _ _ => rfl)) pa_nil)) pe_int) pa_nil) : PE _ _ (tBM K _ _ _ _))) (pss_cons (ps_asg (pe_op op_fdiv (pe_callTy call_int2 (by rfl) T.z_int (by decide +kernel) (pa_cons (pe_ix (ix_seq : IxR _ (rIx K)) (pv 3) (pv 6) (fun _ _ => rfl)) pa_nil)) pe_int) (pg_sub (pv 3) (pv 6) set_list)) (pss_one ps_continue))) pss_nil)))) pss_nil) (pss_cons (ps_asg (pe_op op_mod (pe_callTy call_int2 (by rfl) T.z_int (by decide +kernel) (pa_cons (pe_op op_add3 (pe_op op_add3 (pe_op op_mul2 (pv 2) pe_int) (pe_op op_mul2 (pv 5) pe_int)) pe_int) pa_nil)) pe_int) (pg_name (i := 7) sc_law_draws.nd rfl (Or.inl rfl))) (pss_cons (ps_asg (pe_op op_mod (pe_callTy call_int2 (by rfl) T.z_int (by decide +kernel) (pa_cons (pe_op op_add3 (pe_op op_fdiv (pe_op op_mul2 (pv 7) (pv 7)) pe_int) (pv 7)) pa_nil)) pe_int) (pg_name (i := 7) sc_law_draws.nd rfl (Or.inl rfl))) (pss_one (ps_expr (pe_bm PySem.F.plainAttrs_list PySem.F.slot_list_append PySem.F.type_list_append mt_append (pv 4) (pa_cons (pe_op op_mod (pe_callTy call_int2 (by rfl) T.z_int (by decide +kernel) (pa_cons (pe_op op_add3 (pe_op op_fdiv (pe_op op_mul2 (pv 7) (pv 7)) pe_int) (pe_op op_mul2 (pv 5) pe_int)) pa_nil)) pe_int) pa_nil) : PE _ _ (tBM K _ _ _ _))))))))) (pss_one (ps_ret (pv 4)))))), ?_⟩
    walk_at "ssZ"
    refine k_l hS ?_
    refine c_list (xs := ns.map V.int) (fun D i H1 => Same H H1 ∧ ∃ rs : List Int, rs.length = i ∧ H1 D = some (.lst (rs.map V.int))) (fun D H1 nD s1 e1 => ⟨s1, [], rfl, e1⟩) (fun D i H1 hi nD p => p.1.seq hS) (fun D i x H1 hx nD p => ?_) (fun D H1 nD p => ?_)
    · obtain ⟨s1, rs, lr, er⟩ := p
      have hi := (List.getElem?_eq_some_iff.mp hx).1
      rw [List.length_map] at hi
      obtain ⟨z, rfl⟩ : ∃ z, x = V.int z := by
        rw [List.getElem?_map] at hx
        cases e : ns[i]? with
        | none =>
          rw [e] at hx
          cases hx
        | some z =>
          rw [e] at hx
          exact ⟨z, (Option.some.inj hx).symm⟩
      walk_at "ssZ"
      refine ⟨rfl, ?_⟩
      walk_at "ssZ"
      refine iteT ?_
      walk_at "ssZ"
      exact c_out er (by rw [List.length_map, lr]; exact small1000 (by omega)) fun H2 c2 e2 => ⟨c2.same s1 nD, rs ++ [if z < 0 then -z else z], by simp [lr], by rw [List.map_append]; exact e2⟩
    · obtain ⟨s1, rs, lr, er⟩ := p
      rw [List.length_map] at lr
      walk_at "ssZ"
      refine n_obj (Nat.zero_le _) fun d H2 nd s2 e2 => ?_
      have nrd : D ≠ d := ne_of_none er nd
      have nd0 : H d = none := s1.free nd
      walk_at "ssZ"
      refine k_r1 (by omega) (by omega) ?_
      refine f_range (fun i σ H' => ∃ c k t x, ∃ ds rs : List Int, σ = [some (.ref a), some (.int m), c, some (.ref D), some (.ref d), k, t, x] ∧ Same H H' ∧ H' D = some (.lst (rs.map V.int)) ∧ rs.length = ns.length ∧ H' d = some (.lst (ds.map V.int)) ∧ ds.length ≤ i)
        ⟨_, _, _, _, [], rs, rfl, s1.trans s2, s2 _ _ er, lr, e2, Nat.le_refl _⟩ (fun i σ H3 hi p => ?_) (fun σ H3 p => ?_)
      · obtain ⟨c, k, t, x, ds, rs, rfl, s3, e3, l3, f3, g3⟩ := p
        have sz : (ds.map V.int).length < sizeLine := small1000' (by rw [List.length_map]; omega)
        walk_at "ssZ"
        refine s_cut (fun σ H' => ∃ (c : Int) (t x : Option V) (rs : List Int), σ = [some (.ref a), some (.int m), some (.int c), some (.ref D), some (.ref d), some (.int (0 + (i : Int))), t, x] ∧ Same H H' ∧ H' D = some (.lst (rs.map V.int)) ∧ rs.length = ns.length ∧ H' d = some (.lst (ds.map V.int))) ?_ (fun σ H4 p => ?_)
        · walk_at "ssZ"
          refine b_lenL (s3.seq hS) ?_
          walk_at "ssZ"
          refine ite2 (fun e => ?_) (fun e => ?_)
          · have e := of_decide_eq_true e
            rw [List.length_map] at e
            walk_at "ssZ"
            refine b_lenL (s3.seq hS) ?_
            rw [List.length_map]
            refine o_mod e ?_
            walk_at "ssZ"
            have b1 : 0 ≤ (0 + (i : Int)) % (ns.length : Int) := Int.emod_nonneg _ (by omega)
            have b2 : (0 + (i : Int)) % (ns.length : Int) < (ns.length : Int) := Int.emod_lt_of_pos _ e
            obtain ⟨j, hj⟩ : ∃ j : Nat, (0 + (i : Int)) % (ns.length : Int) = (j : Int) := ⟨_, (Int.toNat_of_nonneg b1).symm⟩
            rw [hj]
            have hj1 : j < ns.length := by omega
            have hj2 : j < rs.length := by omega
            have g1 : (ns.map V.int)[j]? = some (.int ns[j]) := by
              rw [List.getElem?_map, List.getElem?_eq_getElem hj1]
              rfl
            have g2 : (rs.map V.int)[j]? = some (.int rs[j]) := by
              rw [List.getElem?_map, List.getElem?_eq_getElem hj2]
              rfl
            refine o_ixL (s3.seq hS) (atI_nat g1) ?_
            walk_at "ssZ"
            refine ite2 (fun e => ?_) (fun e => ?_)
            · walk_at "ssZ"
              refine o_ixL (lst_of e3) (atI_nat g2) ?_
              walk_at "ssZ"
              refine ite2 (fun e => ?_) (fun e => ?_)
              · walk_at "ssZ"
                refine m_ty (lst_of f3) ?_
                walk_at "ssZ"
                refine o_ixL (lst_of e3) (atI_nat g2) ?_
                walk_at "ssZ"
                refine m_app f3 sz fun H4 c4 f4 => ?_
                have e4 := c4.at e3 nrd
                have s4 := c4.same s3 nd0
                walk_at "ssZ"
                refine o_ixL (lst_of e4) (atI_nat g2) ?_
                walk_at "ssZ"
                refine st_L e4 (j := j) (ixN_nat (by rw [List.length_map]; exact hj2)) fun H5 c5 e5 => ?_
                have f5 := c5.at f4 nrd.symm
                have s5 := c5.same s4 nD
                walk_at "ssZ"
                refine ⟨_, _, _, _, ds ++ [rs[j] % 1000003], rs.set j (rs[j] / 1000003), rfl, s5, ?_, by rw [List.length_set]; exact l3, ?_, by rw [List.length_append]; exact Nat.succ_le_succ g3⟩
                · rw [e5, List.map_set]
                · rw [f5, List.map_append]
                  rfl
              · walk_at "ssZ"
                exact ⟨_, _, _, rs, rfl, s3, e3, l3, f3⟩
            · walk_at "ssZ"
              refine iteF ?_
              walk_at "ssZ"
              exact ⟨_, _, _, rs, rfl, s3, e3, l3, f3⟩
          · walk_at "ssZ"
            exact ⟨_, _, _, rs, rfl, s3, e3, l3, f3⟩
        · obtain ⟨c, t, x, rs, rfl, s3, e3, l3, f3⟩ := p
          walk_at "ssZ"
          refine m_ty (lst_of f3) ?_
          walk_at "ssZ"
          refine m_app f3 sz fun H5 c5 f5 => ?_
          obtain ⟨ds', f6, l6⟩ := snoc_int f5
          exact ⟨_, _, _, _, ds', rs, rfl, c5.same s3 nd0, c5.at e3 nrd, l3, f6, by omega⟩
      · obtain ⟨c, k, t, x, ds, rs, rfl, s3, e3, l3, f3, g3⟩ := p
        walk_at "ssZ"
        exact q d H3 ds s3 nd0 f3
end
end K23
-- WIDE
namespace K23
open PySem PySem.Spec PyProof.Rows L2 Wy WN WQ WS WC WE WM W3 W4 W5 W7 W8 W23

/-- lists of words, one by one: all but the last, and the last -/
structure PB (H0 H : Hp) (q : Addr) (bs : List Addr) (c : Addr) (qs : List (List Str)) (r : List Str) : Prop where
  s : Same H0 H
  fq : H0 q = none
  eq : H q = some (.lst ((bs ++ [c]).map V.ref))
  fc : H0 c = none
  ec : H c = some (.lst (r.map V.str))
  len : bs.length = qs.length
  eb : ∀ (j : Nat) (b : Addr) (x : List Str), bs[j]? = some b → qs[j]? = some x → H b = some (.lst (x.map V.str)) ∧ b ≠ c ∧ H0 b = none
theorem refs_ne {H : Hp} {a q : Addr} {x : List Str} {bs : List Addr} {c : Addr} (h1 : H a = some (.lst (x.map V.str))) (h2 : H q = some (.lst ((bs ++ [c]).map V.ref))) : a ≠ q := fun z => by
  rw [z, h2] at h1
  injection h1 with h1
  injection h1 with h1
  have := congrArg (fun l : List V => l.getLast?) h1
  rw [List.map_append, List.getLast?_append] at this
  simp only [List.map_cons, List.map_nil, List.getLast?_singleton, Option.some_or] at this
  cases e : (x.map V.str).getLast? with
  | none =>
    rw [e] at this
    cases this
  | some v =>
    rw [e] at this
    have hv := List.mem_of_getLast? e
    obtain ⟨y, _, rfl⟩ := List.mem_map.mp hv
    cases this
theorem parts_step {qs : List (List Str)} {b : List Str} {w : Str} {r : List Str} (h : partsO b = qs ++ [r]) : partsO (b ++ [w]) = if w = TH then qs ++ [r] ++ [[]] else qs ++ [r ++ [w]] := by
  have := parts_snoc b w
  simp only [h] at this
  rw [List.dropLast_concat, List.getLast_concat] at this
  exact this
theorem PB.new {H0 H H2 H3 : Hp} {q c d : Addr} {bs : List Addr} {qs : List (List Str)} {r : List Str} (pb : PB H0 H q bs c qs r) (nd : H d = none) (s2 : Same H H2) (ed : H2 d = some (.lst [])) (cg : Chg q H2 H3) (e3 : H3 q = some (.lst ((bs ++ [c]).map V.ref ++ [.ref d]))) : PB H0 H3 q (bs ++ [c]) d (qs ++ [r]) [] := by
  have hq2 := s2 _ _ pb.eq
  have ndq : d ≠ q := fun z => by
    rw [z, pb.eq] at nd
    cases nd
  have keep : ∀ (b : Addr) (x : List Str), H b = some (.lst (x.map V.str)) → H3 b = some (.lst (x.map V.str)) ∧ b ≠ d := fun b x e => by
    refine ⟨cg.at (s2 _ _ e) (refs_ne e pb.eq), fun z => ?_⟩
    rw [z, nd] at e
    cases e
  refine ⟨fun b o e => cg.at (s2 _ _ (pb.s _ _ e)) (fun z => by rw [z, pb.fq] at e; cases e), pb.fq, ?_, pb.s.free nd, cg.at ed ndq, by rw [List.length_append, List.length_append, pb.len]; rfl, fun j b x hb hx => ?_⟩
  · rw [e3, List.map_append (l₂ := [d])]
    rfl
  · by_cases hj : j < bs.length
    · rw [List.getElem?_append_left hj] at hb
      rw [List.getElem?_append_left (by rw [← pb.len]; exact hj)] at hx
      obtain ⟨g1, g2, g3⟩ := pb.eb j b x hb hx
      obtain ⟨k1, k2⟩ := keep b x g1
      exact ⟨k1, k2, g3⟩
    · have hj2 := (List.getElem?_eq_some_iff.mp hb).1
      rw [List.length_append] at hj2
      have hj3 : j = bs.length := by
        have : j < bs.length + 1 := hj2
        omega
      subst hj3
      rw [List.getElem?_append_right (Nat.le_refl _), Nat.sub_self] at hb
      rw [List.getElem?_append_right (by rw [pb.len]; exact Nat.le_refl _), pb.len, Nat.sub_self] at hx
      cases hb
      cases hx
      obtain ⟨k1, k2⟩ := keep _ _ pb.ec
      exact ⟨k1, k2, pb.fc⟩
theorem PB.add {H0 H H3 : Hp} {q c : Addr} {bs : List Addr} {qs : List (List Str)} {r : List Str} {w : Str} (pb : PB H0 H q bs c qs r) (cg : Chg c H H3) (e3 : H3 c = some (.lst (r.map V.str ++ [.str w]))) : PB H0 H3 q bs c qs (r ++ [w]) := by
  refine ⟨fun b o e => cg.at (pb.s _ _ e) (fun z => by rw [z, pb.fc] at e; cases e), pb.fq, cg.at pb.eq (refs_ne pb.ec pb.eq).symm, pb.fc, by rw [e3, List.map_append]; rfl, pb.len, fun j b x hb hx => ?_⟩
  obtain ⟨g1, g2, g3⟩ := pb.eb j b x hb hx
  exact ⟨cg.at g1 g2, g2, g3⟩
section
variable {P : Program} {w : World} {K : PySem.W.Frag} {mg : Str → Option Value} {base : Heap}
def spParts : Sp := fun vs H Q _ => ∃ (p : Addr) (ws : List Str), vs = [.ref p, .str TH] ∧ H p = some (.lst (ws.map V.str)) ∧ ws.length ≤ 10000 ∧ ∀ q H' bs c qs r, PB H H' q bs c qs r → partsO ws = qs ++ [r] → Q (.ref q) H'
theorem k_parts_between (T : Tx w K mg) : C8.Cal P w K mg base 1 "parts_between" spParts [] := by
  refine cal_of (N := n_parts_between) T.d_parts_between sc_parts_between (fun _ _ F => F.bindsN fun _ _ _ _ _ _ us hl => match us, hl with | [_, _], _ => rfl) (fun vs H Q E h => ?_) (fun f cdv A outer s H vs Q E hr h => ?_)
  · obtain ⟨_, _, rfl, _⟩ := h
    rfl
  · obtain ⟨p, ws, rfl, ep, hl, q⟩ := h
    refine ⟨_, (pss_cons (ps_asg (pe_lst (pa_cons (pe_lst pa_nil) pa_nil)) (pg_name (i := 2) sc_parts_between.nd rfl (Or.inl rfl))) (pss_cons (ps_for PassesOwn.never rfl (pi_list (pv 0) : PI _ _ _ (iList K _)) (pg_name (i := 3) sc_parts_between.nd rfl (Or.inl rfl)) (pss_one (ps_if (pt_cmpR (op_eq2 hr.units : OpR _ _ (rEq2 K)) (pv 3) (pv 1) (nomark _)) (pss_one (ps_expr (pe_bm PySem.F.plainAttrs_list PySem.F.slot_list_append PySem.F.type_list_append mt_append (pv 2) (pa_cons (pe_lst pa_nil) pa_nil) : PE _ _ (tBM K _ _ _ _)))) (pss_one (ps_expr (pe_bm PySem.F.plainAttrs_list PySem.F.slot_list_append PySem.F.type_list_append mt_append (pe_ix (ix_seq : IxR _ (rIx K)) (pv 2) (pe_un un_neg pe_int) (fun _ _ => rfl)) (pa_cons (pv 3) pa_nil) : PE _ _ (tBM K _ _ _ _))))))) (pss_one (ps_ret (pv 2))))), ?_⟩
    walk_at "xxZ"
    rename_i c H1 n1 s1 e1 l H2 n2 s2 e2
    refine f_list (xs := ws.map V.str) (fun i σ H' => ∃ (x : Option V) (bs : List Addr) (c : Addr) (qs : List (List Str)) (r : List Str), σ = [some (.ref p), some (.str TH), some (.ref l), x] ∧ PB H H' l bs c qs r ∧ partsO (ws.take i) = qs ++ [r] ∧ bs.length ≤ i ∧ r.length ≤ i) ⟨none, [], c, [], [], rfl, ⟨s1.trans s2, s1.free n2, e2, n1, s2 _ _ e1, rfl, fun j b x h => by cases h⟩, rfl, Nat.le_refl _, Nat.le_refl _⟩ (fun i σ H' hi g => by
      obtain ⟨_, _, _, _, _, _, pb, _⟩ := g
      exact (pb.s.seq (lst_of ep))) (fun i u σ H' hu g => ?_) (fun σ H' g => ?_)
    · obtain ⟨x, bs, c, qs, r, rfl, pb, hp, hb, hr'⟩ := g
      rw [List.getElem?_map] at hu
      obtain ⟨y, hy, rfl⟩ := Option.map_eq_some_iff.mp hu
      have hi := (List.getElem?_eq_some_iff.mp hy).1
      have etake : ws.take (i + 1) = ws.take i ++ [y] := by rw [List.take_add_one, hy]; rfl
      have eps := parts_step (w := y) hp
      rw [← etake] at eps
      have eq1 := pb.eq
      have ec1 := pb.ec
      walk_at "xxZ"
      refine iteD (fun e => ?_) (fun e => ?_)
      · have e : V.str y = V.str TH := e
        injection e with e
        rw [if_pos e] at eps
        walk_at "xxZ"
        refine m_ty (lst_of eq1) ?_
        walk_at "xxZ"
        rename_i d H3 n3 s3 e3
        refine m_app (s3 _ _ eq1) (small1000' (by rw [List.length_map, List.length_append]; show bs.length + 1 ≤ 100000; omega)) fun H4 c4 e4 => ?_
        walk_at "xxZ"
        exact ⟨_, bs ++ [c], d, qs ++ [r], [], rfl, pb.new n3 s3 e3 c4 e4, eps, by rw [List.length_append]; show bs.length + 1 ≤ i + 1; omega, by show 0 ≤ i + 1; omega⟩
      · rw [if_neg (fun z => e (by rw [z]))] at eps
        walk_at "xxZ"
        have hg : atI ((bs ++ [c]).map V.ref) (-1) = some (.ref c) := by
          rw [List.map_append]
          exact atI_last _ _
        refine o_ixL (lst_of eq1) hg ?_
        walk_at "xxZ"
        refine m_ty (lst_of ec1) ?_
        walk_at "xxZ"
        refine m_app ec1 (small1000' (by rw [List.length_map]; omega)) fun H4 c4 e4 => ?_
        walk_at "xxZ"
        exact ⟨_, bs, c, qs, r ++ [y], rfl, pb.add c4 e4, eps, by omega, by rw [List.length_append]; show r.length + 1 ≤ i + 1; omega⟩
    · obtain ⟨x, bs, c, qs, r, rfl, pb, hp, _, _⟩ := g
      rw [List.length_map, List.take_length] at hp
      walk_at "xxZ"
      exact q _ _ _ _ _ _ pb hp
end
end K23
-- WIDE
-- RAISES read_place
-- CUTIF _atom_of := kind in ('row', 'yes', 'no') and len(words) == 2
-- CUTIF _atom_of := kind == 'turn' and len(words) == 3 and is_number(words[2])
-- CUTIF _atom_of := kind == 'fault' and len(words) == 3 and (is_name(words[2]) or words[2] == 'check')
namespace K23
open PySem PySem.Spec PyProof.Rows L2 Wy WN WQ WS WC WE WM W3 W4 W5 W7 W8 W23
open W30 (isN)

theorem eqv_none : ∀ d : PyData, PyData.eqv d .none = isN d
  | .none => by decide +kernel
  | .bool b => by cases b <;> decide +kernel
  | .int i => rfl
  | .str s => rfl
  | .list l => rfl
  | .tuple l => rfl
  | .dict l => rfl
theorem readCmp_cmp {ws : List Str} {c : Cd} (h : readCmp ws = some c) : ∃ s l e, c = .cmp s l e := by
  unfold readCmp wholeC takeCmp at h
  split at h
  · cases h
  · rename_i c2 j e
    split at h
    · cases h
      split at e
      · cases e
      · split at e
        · split at e
          · cases e
          · cases e
            exact ⟨_, _, _, rfl⟩
        · cases e
    · cases h
theorem small_drop {ws : List Str} (h : SmallW ws) (k : Nat) : SmallW (ws.drop k) := ⟨by rw [List.length_drop]; have := h.len; omega, fun y hy => h.each y (List.mem_of_mem_drop hy)⟩
theorem s_par {i j : Nat} {ta : TA} {D : Ends} {σ : L2.St} {H : Hp} (h : ta σ H fun vs H1 => ∃ v w, vs = [v, w] ∧ D.nx ((σ.set i (some v)).set j (some w)) H1) : tPar i j ta D σ H := h
section
variable {P : Program} {w : World} {K : PySem.W.Frag} {mg : Str → Option Value} {base : Heap}
def spCmpOf : Sp := fun vs H Q _ => ∃ (p : Addr) (ws : List Str), vs = [.ref p] ∧ H p = some (.lst (ws.map V.str)) ∧ SmallW ws ∧ ∀ v H', Same H H' → Tp H' v (oC (readCmp ws)) → Q v H'
theorem k_comparison_of (T : Tx w K mg) : C8.Cal P w K mg base 8 "comparison_of" spCmpOf [] := by
  refine cal_of (N := n_comparison_of) T.d_comparison_of sc_comparison_of (fun _ _ F => F.bindsN fun _ _ _ _ _ _ us hl => match us, hl with | [_], _ => rfl) (fun vs H Q E h => ?_) (fun f cdv A outer s H vs Q E hr h => ?_)
  · obtain ⟨_, _, rfl, _⟩ := h
    rfl
  · obtain ⟨p, ws, rfl, ep, sm, q⟩ := h
    refine ⟨_, (pss_one (ps_ret (C8.pe_c (k_whole T) hr (by first | decide | omega) (by rfl) (pa_cons (C8.pe_c (k_take_comparison T) hr (by first | decide | omega) (by rfl) (pa_cons (pv 0) (pa_cons pe_int pa_nil))) (pa_cons (pv 0) pa_nil))))), ?_⟩
    walk_at "xxZ"
    refine ⟨p, ws, 0, rfl, ep, sm, fun v H1 s1 t1 => ?_⟩
    walk_at "xxZ"
    exact ⟨v, p, ws, _, rfl, t1, s1 _ _ ep, fun u t => q u H1 s1 t⟩
def spAtom : Sp := fun vs H Q _ => ∃ (p : Addr) (ws : List Str), vs = [.ref p] ∧ H p = some (.lst (ws.map V.str)) ∧ SmallW ws ∧ ∀ v H', Same H H' → Tp H' v (atomO ws) → Q v H'
theorem k_atom_of (T : Tx w K mg) : C8.Cal P w K mg base 9 "_atom_of" spAtom [] := by
  refine cal_of (N := n_atom_of) T.d_atom_of sc_atom_of (fun _ _ F => F.bindsN fun _ _ _ _ _ _ us hl => match us, hl with | [_], _ => rfl) (fun vs H Q E h => ?_) (fun f cdv A outer s H vs Q E hr h => ?_)
  · obtain ⟨_, _, rfl, _⟩ := h
    rfl
  · obtain ⟨p, ws, rfl, ep, sm, q⟩ := h
    refine ⟨_, (pss_cons (ps_if (pt_not (pt_tr (C8.pe_c (k_is_number T) hr (by first | decide | omega) (by rfl) (pa_cons (C8.pe_c (k_word_at T) hr (by first | decide | omega) (by rfl) (pa_cons (pv 0) (pa_cons pe_int pa_nil))) pa_nil)) : PT _ _ (tTr K _))) (pss_one (ps_ret pe_non)) pss_nil) (pss_cons (ps_par (i := 1) (j := 2) (by rfl) sc_atom_of.nd rfl rfl (by decide) rfl rfl (pa_cons (pe_ix (ix_seq : IxR _ (rIx K)) (pv 0) pe_int (fun _ _ => rfl)) (pa_cons (pe_callTy call_int2 (by rfl) T.z_int (by decide +kernel) (pa_cons (pe_ix (ix_seq : IxR _ (rIx K)) (pv 0) pe_int (fun _ _ => rfl)) pa_nil)) pa_nil)) (by rfl)) (pss_cons (ps_if (pt_cmpR (op_eq2 hr.units : OpR _ _ (rEq2 K)) (pv 1) pe_str (nomark _)) (pss_cons (ps_asg (pe_ifExp (pt_cmpR (op_eq2 hr.units : OpR _ _ (rEq2 K)) (C8.pe_c (k_word_at T) hr (by first | decide | omega) (by rfl) (pa_cons (pv 0) (pa_cons pe_int pa_nil))) pe_str (nomark _)) (C8.pe_c (k_comparison_of T) hr (by first | decide | omega) (by rfl) (pa_cons (pe_slice (sl_2 : SlR _ (rSl2 K)) (pv 0) (po_some pe_int) po_none) pa_nil)) pe_non) (pg_name (i := 3) sc_atom_of.nd rfl (Or.inl rfl))) (pss_one (ps_ret (pe_ifExp (pt_cmpR op_isN2 (pv 3) pe_non (nomark _)) pe_non (pe_tup (pa_cons pe_str (pa_cons (pv 2) (pa_star (pe_slice (sl_tupA : SlR _ (rSlA K)) (pv 3) (po_some pe_int) po_none) pa_nil : PA _ _ (tStar K _ _))))))))) pss_nil) (C8.pss_cut (ps_if (PW.pt (pw_and (pt_cmpR (op_in2 : OpR _ _ (rIn2 K)) (pv 1) (pe_tup (pa_cons pe_str (pa_cons pe_str (pa_cons pe_str pa_nil)))) (by rfl)) (pw_and1 (pt_cmpR (op_eq2 hr.units : OpR _ _ (rEq2 K)) (pe_callB (call_len2 : CallR _ _ (rLn K)) (by rfl) T.z_len (by decide +kernel) (pa_cons (pv 0) pa_nil)) pe_int (nomark _))))) (pss_one (ps_ret (pe_tup (pa_cons (pv 1) (pa_cons (pv 2) pa_nil))))) pss_nil) (C8.pss_cut (ps_if (PW.pt (pw_and (pt_cmpR (op_eq2 hr.units : OpR _ _ (rEq2 K)) (pv 1) pe_str (nomark _)) (pw_and (pt_cmpR (op_eq2 hr.units : OpR _ _ (rEq2 K)) (pe_callB (call_len2 : CallR _ _ (rLn K)) (by rfl) T.z_len (by decide +kernel) (pa_cons (pv 0) pa_nil)) pe_int (nomark _)) (pw_and1 (pt_tr (C8.pe_c (k_is_number T) hr (by first | decide | omega) (by rfl) (pa_cons (pe_ix (ix_seq : IxR _ (rIx K)) (pv 0) pe_int (fun _ _ => rfl)) pa_nil)) : PT _ _ (tTr K _)))))) (pss_one (ps_ret (pe_tup (pa_cons (pv 1) (pa_cons (pv 2) (pa_cons (pe_callTy call_int2 (by rfl) T.z_int (by decide +kernel) (pa_cons (pe_ix (ix_seq : IxR _ (rIx K)) (pv 0) pe_int (fun _ _ => rfl)) pa_nil)) pa_nil)))))) pss_nil) (C8.pss_cut (ps_if (PW.pt (pw_and (pt_cmpR (op_eq2 hr.units : OpR _ _ (rEq2 K)) (pv 1) pe_str (nomark _)) (pw_and (pt_cmpR (op_eq2 hr.units : OpR _ _ (rEq2 K)) (pe_callB (call_len2 : CallR _ _ (rLn K)) (by rfl) T.z_len (by decide +kernel) (pa_cons (pv 0) pa_nil)) pe_int (nomark _)) (pw_and1 (PW.pt (pw_or (pt_tr (C8.pe_c (k_is_name T) hr (by first | decide | omega) (by rfl) (pa_cons (pe_ix (ix_seq : IxR _ (rIx K)) (pv 0) pe_int (fun _ _ => rfl)) pa_nil)) : PT _ _ (tTr K _)) (pw_or1 (pt_cmpR (op_eq2 hr.units : OpR _ _ (rEq2 K)) (pe_ix (ix_seq : IxR _ (rIx K)) (pv 0) pe_int (fun _ _ => rfl)) pe_str (nomark _))))))))) (pss_one (ps_ret (pe_tup (pa_cons (pv 1) (pa_cons (pv 2) (pa_cons (pe_ix (ix_seq : IxR _ (rIx K)) (pv 0) pe_int (fun _ _ => rfl)) pa_nil)))))) pss_nil) (pss_one (ps_ret pe_non)))))))), ?_⟩
    unfold atomO at q
    walk_at "xxZ"
    refine ⟨p, ws, 1, rfl, ep, sm, fun v H1 s1 t1 => ?_⟩
    cases t1
    have e1 := s1 _ _ ep
    walk_at "xxZ"
    refine ⟨_, rfl, sm.at6 1, fun H2 s2 => ?_⟩
    have e2 := s2 _ _ e1
    have S2 := s1.trans s2
    cases hn : numberW (wordAt ws 1) with
    | false =>
      rw [if_pos hn] at q
      walk_at "xxZ"
      exact q _ H2 S2 .non
    | true =>
      rw [if_neg (by rw [hn]; simp)] at q
      have hl := number_lt hn
      obtain ⟨ei, el⟩ := number_int hn
      walk_at "xxZ"
      refine s_par ?_
      walk_at "xxZ"
      refine o_ixL (lst_of e2) (strs_at (i := 0) (by omega)) ?_
      walk_at "xxZ"
      refine o_ixL (lst_of e2) (strs_at (i := 1) hl) ?_
      walk_at "xxZ"
      refine b_intS ei el ?_
      walk_at "xxZ"
      refine ⟨_, _, rfl, ?_⟩
      generalize hw0 : wordAt ws 0 = w0 at q
      walk_at "xxZ"
      refine iteD (fun c => ?_) (fun c => ?_)
      · have c : V.str w0 = V.str "when" := c
        injection c with c
        rw [if_pos c] at q
        walk_at "xxZ"
        refine ⟨p, ws, 2, rfl, e2, sm, fun v H3 s3 t3 => ?_⟩
        cases t3
        have e3 := s3 _ _ e2
        walk_at "xxZ"
        refine iteD (fun c2 => ?_) (fun c2 => ?_)
        · have c2 : V.str (wordAt ws 2) = V.str ":" := c2
          injection c2 with c2
          rw [if_pos c2] at q
          walk_at "xxZ"
          rename_i a4 H4 n4 s4 e4
          have e4 : H4 a4 = some (.lst (cutV (ws.map V.str) (some ((3 : Nat) : Int)) none)) := e4
          rw [cutFrom _ (by decide)] at e4
          have e4 : H4 a4 = some (.lst ((ws.drop 3).map V.str)) := by
            rw [e4, List.map_drop]
            rfl
          refine ⟨a4, ws.drop 3, rfl, e4, small_drop sm 3, fun v H5 s5 t5 => ?_⟩
          have S5 := S2.trans (s3.trans (s4.trans s5))
          cases hc : readCmp (ws.drop 3) with
          | none =>
            rw [hc] at q t5
            cases t5
            walk_at "xxZ"
            exact q _ H5 S5 .non
          | some c =>
            obtain ⟨s', l, r, rfl⟩ := readCmp_cmp hc
            rw [hc] at q t5
            have t5 : Tp H5 v (.tuple [.str "cmp", .str s', l.d, r.d]) := t5
            obtain ⟨a5, us, rfl, e5, t5⟩ := tpL t5
            walk_at "xxZ"
            cases t5 with
            | cons t1 t5 =>
            cases t1
            cases t5 with
            | cons t1 t5 =>
            cases t1
            cases t5 with
            | cons tl5 t5 =>
            cases t5 with
            | cons tr5 t5 =>
            cases t5
            refine WO.l_tup e5 (fun z => absurd z.1 (by show ¬ HT.sIx 4 0 (some 1) = 0; decide)) fun a6 H6 n6 s6 e6 => ?_
            rename_i ul ur
            have e6 : H6 a6 = some (.tup [.str s', ul, ur]) := e6
            walk_at "xxZ"
            refine k_st (.inr (tup_of e6)) ?_
            walk_at "xxZ"
            rename_i a7 H7 n7 s7 e7
            have k7 := (s6.trans s7).tk
            exact q _ H7 (S5.trans (s6.trans s7)) (.tup e7 (.cons (.str _) (.cons (.int _) (.cons (.str _) (.cons (tl5.tk k7) (.cons (tr5.tk k7) .nil))))))
        · rw [if_neg (fun z => c2 (by rw [z]))] at q
          walk_at "xxZ"
          exact q _ H3 (S2.trans s3) .non
      · rw [if_neg (fun z => c (by rw [z]))] at q
        have one : ∀ (k : Nat) (b : Str), (ws.length : Int) = k ↔ ws.length = k := fun k b => by omega
        refine s_cut (fun σ H' => σ = [some (.ref p), some (.str w0), some (.int (dv (wordAt ws 1))), none] ∧ Same H2 H' ∧ ¬ (w0 ∈ W23.KS ∧ ws.length = 2)) ?_ (fun σ H3 p3 => ?_)
        · walk_at "xxZ"
          rename_i a3 H3 n3 s3 e3
          refine o_inT (tup_of e3) rfl (by decide +kernel) ?_
          rw [show inV (.str w0) [.str "row", .str "yes", .str "no"] = decide (w0 ∈ W23.KS) from inV_list (l := W23.KS)]
          have e3p := s3 _ _ e2
          walk_at "xxZ"
          refine iteD (fun c1 => ?_) (fun c1 => ?_)
          rotate_left
          · walk_at "xxZ"
            exact ⟨rfl, s3, fun z => c1 z.1⟩
          walk_at "xxZ"
          refine b_lenL (lst_of e3p) ?_
          rw [List.length_map]
          walk_at "xxZ"
          refine iteI (fun c2 => ?_) (fun c2 => ?_)
          rotate_left
          · walk_at "xxZ"
            exact ⟨rfl, s3, fun z => c2 (by have := z.2; omega)⟩
          rw [if_pos ⟨c1, by omega⟩] at q
          walk_at "xxZ"
          rename_i a4 H4 n4 s4 e4
          exact q _ H4 (S2.trans (s3.trans s4)) (.tup e4 (.cons (.str _) (.cons (.int _) .nil)))
        obtain ⟨rfl, s3, nk⟩ := p3
        rw [if_neg nk] at q
        have e3p := s3 _ _ e2
        have S3 := S2.trans s3
        have l2 : ws.length = 3 → atI (ws.map V.str) ((2 : Nat) : Int) = some (.str (wordAt ws 2)) := fun h => strs_at (i := 2) (by omega)
        refine s_cut (fun σ H' => σ = [some (.ref p), some (.str w0), some (.int (dv (wordAt ws 1))), none] ∧ Same H3 H' ∧ ¬ (w0 = "turn" ∧ ws.length = 3 ∧ numberW (wordAt ws 2) = true)) ?_ (fun σ H4 p4 => ?_)
        · walk_at "xxZ"
          refine iteD (fun c1 => ?_) (fun c1 => ?_)
          rotate_left
          · walk_at "xxZ"
            exact ⟨rfl, Same.refl _, fun z => c1 (by rw [z.1])⟩
          have c1 : V.str w0 = V.str "turn" := c1
          injection c1 with c1
          walk_at "xxZ"
          refine b_lenL (lst_of e3p) ?_
          rw [List.length_map]
          walk_at "xxZ"
          refine iteI (fun c2 => ?_) (fun c2 => ?_)
          rotate_left
          · walk_at "xxZ"
            exact ⟨rfl, Same.refl _, fun z => c2 (by have := z.2.1; omega)⟩
          walk_at "xxZ"
          refine o_ixL (lst_of e3p) (l2 (by omega)) ?_
          walk_at "xxZ"
          refine ⟨_, rfl, sm.at6 2, fun H4 s4 => ?_⟩
          have e4p := s4 _ _ e3p
          cases hn2 : numberW (wordAt ws 2) with
          | false =>
            walk_at "xxZ"
            exact ⟨rfl, s4, fun z => by have := z.2.2; cases this⟩
          | true =>
            obtain ⟨ei2, el2⟩ := number_int hn2
            rw [if_pos ⟨c1, by omega, hn2⟩] at q
            walk_at "xxZ"
            refine o_ixL (lst_of e4p) (l2 (by omega)) ?_
            walk_at "xxZ"
            refine b_intS ei2 el2 ?_
            walk_at "xxZ"
            rename_i a5 H5 n5 s5 e5
            exact q _ H5 (S3.trans (s4.trans s5)) (.tup e5 (.cons (.str _) (.cons (.int _) (.cons (.int _) .nil))))
        obtain ⟨rfl, s4, nk2⟩ := p4
        rw [if_neg nk2] at q
        have e4p := s4 _ _ e3p
        have S4 := S3.trans s4
        refine s_cut (fun σ H' => σ = [some (.ref p), some (.str w0), some (.int (dv (wordAt ws 1))), none] ∧ Same H4 H' ∧ ¬ (w0 = "fault" ∧ ws.length = 3 ∧ (nameW (wordAt ws 2) = true ∨ wordAt ws 2 = "check"))) ?_ (fun σ H5 p5 => ?_)
        · walk_at "xxZ"
          refine iteD (fun c1 => ?_) (fun c1 => ?_)
          rotate_left
          · walk_at "xxZ"
            exact ⟨rfl, Same.refl _, fun z => c1 (by rw [z.1])⟩
          have c1 : V.str w0 = V.str "fault" := c1
          injection c1 with c1
          walk_at "xxZ"
          refine b_lenL (lst_of e4p) ?_
          rw [List.length_map]
          walk_at "xxZ"
          refine iteI (fun c2 => ?_) (fun c2 => ?_)
          rotate_left
          · walk_at "xxZ"
            exact ⟨rfl, Same.refl _, fun z => c2 (by have := z.2.1; omega)⟩
          walk_at "xxZ"
          refine o_ixL (lst_of e4p) (l2 (by omega)) ?_
          walk_at "xxZ"
          refine ⟨_, rfl, sm.at6 2, fun H5 s5 => ?_⟩
          have e5p := s5 _ _ e4p
          have fin : (nameW (wordAt ws 2) = true ∨ wordAt ws 2 = "check") → ∀ a6 H6, Same H5 H6 → H6 a6 = some (.tup [.str w0, .int (dv (wordAt ws 1)), .str (wordAt ws 2)]) → Q (.ref a6) H6 := fun hh a6 H6 s6 e6 => by
            rw [if_pos ⟨c1, by omega, hh⟩] at q
            exact q _ H6 (S4.trans (s5.trans s6)) (.tup e6 (.cons (.str _) (.cons (.int _) (.cons (.str _) .nil))))
          cases hn2 : nameW (wordAt ws 2) with
          | false =>
            walk_at "xxZ"
            refine o_ixL (lst_of e5p) (l2 (by omega)) ?_
            walk_at "xxZ"
            refine iteD (fun c3 => ?_) (fun c3 => ?_)
            · have c3 : V.str (wordAt ws 2) = V.str "check" := c3
              injection c3 with c3
              walk_at "xxZ"
              refine o_ixL (lst_of e5p) (l2 (by omega)) ?_
              walk_at "xxZ"
              rename_i a6 H6 n6 s6 e6
              exact fin (.inr c3) _ _ s6 e6
            · walk_at "xxZ"
              exact ⟨rfl, s5, fun z => z.2.2.elim (fun g => (by cases g)) fun g => c3 (by rw [g])⟩
          | true =>
            walk_at "xxZ"
            refine o_ixL (lst_of e5p) (l2 (by omega)) ?_
            walk_at "xxZ"
            rename_i a6 H6 n6 s6 e6
            exact fin (.inl hn2) _ _ s6 e6
        obtain ⟨rfl, s5, nk3⟩ := p5
        rw [if_neg nk3] at q
        walk_at "xxZ"
        exact q _ H5 (S4.trans s5) .non
end
end K23
-- WIDE
-- RAISES read_place
namespace K23
open PySem PySem.Spec PyProof.Rows L2 Wy WN WQ WS WC WE WM W3 W4 W5 W7 W8 W23 WXD
open W30 (isN)

theorem parts_sub : ∀ (ws : List Str), ∀ y ∈ partsO ws, y.length ≤ ws.length ∧ ∀ x ∈ y, x ∈ ws
  | [], y, h => by
    simp [partsO] at h
    subst h
    simp
  | w :: r, y, h => by
    have ih := parts_sub r
    by_cases hw : w = TH
    · rw [show partsO (w :: r) = [] :: partsO r from if_pos hw] at h
      rcases List.mem_cons.mp h with rfl | h
      · simp
      · obtain ⟨h1, h2⟩ := ih y h
        exact ⟨by rw [List.length_cons]; omega, fun x hx => List.mem_cons_of_mem _ (h2 x hx)⟩
    · obtain ⟨p, ps, ep⟩ := List.exists_cons_of_ne_nil (parts_ne r)
      rw [show partsO (w :: r) = (w :: p) :: ps by
        show (if w = TH then _ else match partsO r with | p :: ps => (w :: p) :: ps | [] => [[w]]) = _
        rw [if_neg hw, ep]] at h
      rw [ep] at ih
      rcases List.mem_cons.mp h with rfl | h
      · obtain ⟨h1, h2⟩ := ih p List.mem_cons_self
        refine ⟨by rw [List.length_cons, List.length_cons]; omega, fun x hx => ?_⟩
        rcases List.mem_cons.mp hx with rfl | hx
        · exact List.mem_cons_self
        · exact List.mem_cons_of_mem _ (h2 x hx)
      · obtain ⟨h1, h2⟩ := ih y (List.mem_cons_of_mem _ h)
        exact ⟨by rw [List.length_cons]; omega, fun x hx => List.mem_cons_of_mem _ (h2 x hx)⟩
theorem parts_small {ws y : List Str} (h : SmallW ws) (hy : y ∈ partsO ws) : SmallW y := by
  obtain ⟨h1, h2⟩ := parts_sub ws y hy
  exact ⟨Nat.le_trans h1 h.len, fun x hx => h.each x (h2 x hx)⟩
theorem One.tp {α : Type} {F : α → PyData} {H : Hp} : ∀ {xs : List α} {ys : List V}, One (fun j y H => ∃ x, xs[j]? = some x ∧ Tp H y (F x)) xs.length ys H → TpAll H ys (xs.map F)
  | [], [], _ => .nil
  | [], y :: r, o => by
    have := o.1
    cases this
  | x :: xs, [], o => by
    have := o.1
    cases this
  | x :: xs, y :: r, o => by
    obtain ⟨z, hz, t⟩ := o.2 0 y rfl
    cases hz
    refine .cons t (One.tp (xs := xs) ⟨by have := o.1; simpa using this, fun j y h => ?_⟩)
    obtain ⟨z, hz, t⟩ := o.2 (j + 1) y h
    exact ⟨z, hz, t⟩
section
variable {P : Program} {w : World} {K : PySem.W.Frag} {mg : Str → Option Value} {base : Heap}
def spRead (K : PySem.W.Frag) : Sp := fun vs H Q E => ∃ z : Str, vs = [.str z] ∧ z.length ≤ 1000000 ∧ (∀ ws, wordsW z = some ws → SmallW ws) ∧
  (placeO z = none → ∀ H', Same H H' → E (.ref (He.ga K "BadPlace")) none H') ∧ ∀ ds, placeO z = some ds → ∀ v H', Same H H' → Tp H' v (.tuple ds) → Q v H'
theorem k_read_place (T : Tx w K mg) : WF.CalX P w K mg base 10 "read_place" (spRead K) [] := by
  refine WF.cal_ofX (N := n_read_place) T.d_read_place sc_read_place (fun _ _ F => F.bindsN fun _ _ _ _ _ _ us hl => match us, hl with | [_], _ => rfl) (fun vs H Q E h => ?_) (fun f cdv A outer s H vs Q E hr h => ?_)
  · obtain ⟨_, rfl, _⟩ := h
    rfl
  · obtain ⟨z, rfl, lz, sm, qe, q⟩ := h
    refine ⟨_, (pss_cons (ps_asg (C8.pe_c (k_split_row T) hr (by first | decide | omega) (by rfl) (pa_cons (pv 0) pa_nil)) (pg_name (i := 1) sc_read_place.nd rfl (Or.inl rfl))) (pss_cons (ps_if (pt_cmpR op_isN2 (pv 1) pe_non (nomark _)) (pss_one (ps_raise rfl (takes_of rfl rfl rfl rfl) (pmk_own PySem.F.excBase_ValueError T.e_BadPlace.xP T.e_BadPlace.gC T.e_BadPlace.kP (raises_own T.e_BadPlace.bP T.e_BadPlace.tP) (by rfl)))) pss_nil) (pss_cons (ps_asg (C8.pe_c (k_parts_between T) hr (by first | decide | omega) (by rfl) (pa_cons (pv 1) (pa_cons pe_str pa_nil))) (pg_name (i := 2) sc_read_place.nd rfl (Or.inl rfl))) (pss_cons (ps_if (pt_cmpR op_gt (pe_callB (call_len2 : CallR _ _ (rLn K)) (by rfl) T.z_len (by decide +kernel) (pa_cons (pv 2) pa_nil)) (C8.pe_gc (by rfl) T.g_MOST_ATOMS) (nomark _)) (pss_one (ps_raise rfl (takes_of rfl rfl rfl rfl) (pmk_own PySem.F.excBase_ValueError T.e_BadPlace.xP T.e_BadPlace.gC T.e_BadPlace.kP (raises_own T.e_BadPlace.bP T.e_BadPlace.tP) (by rfl)))) pss_nil) (pss_cons (ps_setLc (i := 3) (own := [("part", 4)]) (g := gName 4) (tt := tYes) (by rfl) sc_read_place.nd rfl rfl (sw_true rfl rfl rfl (by decide +kernel)) (pi_list (pv 2) : PI _ _ _ (iList K _)) (blkOk_by (own := [("part", 4)]) (N := n_read_place) (sc := defScope s_read_place) (by decide +kernel)) (fun _ _ _ _ _ => pg_name (i := 4) sc_read_place.nd rfl (Or.inl rfl)) (fun _ _ _ _ _ => pts_nil) (fun _ _ _ _ _ => (C8.pe_c (k_atom_of T) hr (by first | decide | omega) (by rfl) (pa_cons (pv 4) pa_nil)))) (pss_cons (ps_if (pt_cmpR (op_inD (WP.room65 hr) : OpR _ _ (rInD K)) pe_non (pv 3) (by rfl)) (pss_one (ps_raise rfl (takes_of rfl rfl rfl rfl) (pmk_own PySem.F.excBase_ValueError T.e_BadPlace.xP T.e_BadPlace.gC T.e_BadPlace.kP (raises_own T.e_BadPlace.bP T.e_BadPlace.tP) (by rfl)))) pss_nil) (pss_one (ps_ret (pe_callTy (W6.call_tup2 : CallR _ _ (W6.rTup K)) (by rfl) T.z_tuple (by decide +kernel) (pa_cons (pv 3) pa_nil)))))))))), ?_⟩
    unfold placeO at qe q
    walk_at "xxZ"
    refine ⟨z, rfl, lz, fun v H1 s1 t1 => ?_⟩
    cases hw : wordsW z with
    | none =>
      rw [hw] at t1 qe
      obtain rfl : v = .non := t1
      walk_at "xxZ"
      exact qe rfl H1 s1
    | some ws =>
      rw [hw] at t1 qe q
      obtain ⟨p, rfl, np, ep⟩ := t1
      have sm := sm ws hw
      have qe : (if 3 < (partsO ws).length then none else if ((partsO ws).map atomO).any isN = true then none else some ((partsO ws).map atomO)) = none → ∀ H', Same H H' → E (.ref (He.ga K "BadPlace")) none H' := qe
      have q : ∀ ds, (if 3 < (partsO ws).length then none else if ((partsO ws).map atomO).any isN = true then none else some ((partsO ws).map atomO)) = some ds → ∀ v H', Same H H' → Tp H' v (.tuple ds) → Q v H' := q
      walk_at "xxZ"
      refine ⟨p, ws, rfl, ep, sm.len, fun l H2 bs c qs r pb hp => ?_⟩
      have hlen : (partsO ws).length = bs.length + 1 := by
        rw [hp, List.length_append, pb.len]
        rfl
      have eq2 := pb.eq
      have S2 := s1.trans pb.s
      walk_at "xxZ"
      refine b_lenL (lst_of eq2) ?_
      rw [List.length_map, List.length_append]
      walk_at "xxZ"
      refine iteD (fun c3 => ?_) (fun c3 => ?_)
      · walk_at "xxZ"
        refine qe (if_pos ?_) H2 S2
        have : (3 : Int) < ((bs.length + 1 : Nat) : Int) := c3
        omega
      have c3 : ¬ (3 : Int) < ((bs.length + 1 : Nat) : Int) := c3
      rw [if_neg (by omega)] at qe
      have q : ∀ ds, (if ((partsO ws).map atomO).any isN = true then none else some ((partsO ws).map atomO)) = some ds → ∀ v H', Same H H' → Tp H' v (.tuple ds) → Q v H' := fun ds h => q ds (by rw [if_neg (by omega)]; exact h)
      have part : ∀ (j : Nat) (x : V), ((bs ++ [c]).map V.ref)[j]? = some x → ∃ a y, x = .ref a ∧ (partsO ws)[j]? = some y ∧ H2 a = some (.lst (y.map V.str)) := fun j x hx => by
        rw [List.getElem?_map] at hx
        obtain ⟨a, ha, rfl⟩ := Option.map_eq_some_iff.mp hx
        rw [hp]
        by_cases hj : j < bs.length
        · rw [List.getElem?_append_left hj] at ha
          rw [List.getElem?_append_left (by rw [← pb.len]; exact hj)]
          have hy : qs[j]? = some qs[j]! := by
            rw [List.getElem?_eq_getElem (by rw [← pb.len]; exact hj), getElem!_pos qs j (by rw [← pb.len]; exact hj)]
          exact ⟨a, _, rfl, hy, (pb.eb j a _ ha hy).1⟩
        · have hj2 := (List.getElem?_eq_some_iff.mp ha).1
          rw [List.length_append] at hj2
          have hj3 : j = bs.length := by
            have : j < bs.length + 1 := hj2
            omega
          subst hj3
          rw [List.getElem?_append_right (Nat.le_refl _), Nat.sub_self] at ha
          rw [List.getElem?_append_right (by rw [pb.len]; exact Nat.le_refl _), pb.len, Nat.sub_self]
          cases ha
          exact ⟨_, r, rfl, rfl, pb.ec⟩
      have smP : ∀ y ∈ partsO ws, SmallW y := fun y hy => parts_small sm hy
      walk_at "xxZ"
      refine c_acc (xs := (bs ++ [c]).map V.ref) (.inl ⟨rfl, lst_of eq2⟩) (One fun j y H => ∃ x, (partsO ws)[j]? = some x ∧ Tp H y (atomO x)) (fun i acc H H' k h => ⟨h.1, fun j y e => (h.2 j y e).imp fun x hx => ⟨hx.1, hx.2.tk k⟩⟩) (fun i acc H hi h => small1000' (by rw [h.1]; rw [List.length_map, List.length_append] at hi; have : i ≤ bs.length + 1 := hi; omega)) One.zero (fun j x H3 acc N M hx s3 o hN hM => ?_) (fun D H3 ys nD s3 e3 o => ?_)
      · refine g_name ⟨rfl, t_yes ?_⟩
        refine iteTT rfl ?_
        obtain ⟨a, y, rfl, hy, ea⟩ := part j x hx
        walk_at "xxZ"
        exact ⟨a, y, rfl, s3 _ _ ea, smP y (List.mem_of_getElem? hy), fun v H4 s4 t4 => hN _ _ s4 (o.snoc (fun _ _ h => h.imp fun x hx => ⟨hx.1, hx.2.tk s4.tk⟩) ⟨y, hy, t4⟩)⟩
      · have t : TpAll H3 ys ((partsO ws).map atomO) := by
          refine One.tp (F := fun x => atomO x) ?_
          rw [List.length_map, List.length_append, show bs.length + [c].length = (partsO ws).length from hlen.symm] at o
          exact o
        walk_at "xxZ"
        refine ⟨.none, _, .non, .lst (lst_of e3) t.dp, by decide +kernel, shL (fun x => atomO x) (partsO ws) 3 (by decide) fun x _ => lay_atom x, ?_⟩
        rw [show (fun z => PyData.eqv z .none) = isN from funext eqv_none]
        cases hc : ((partsO ws).map atomO).any isN with
        | true =>
          rw [if_pos hc] at qe
          walk_at "xxZ"
          exact qe rfl H3 (S2.trans s3)
        | false =>
          rw [if_neg (by rw [hc]; simp)] at q
          walk_at "xxZ"
          refine W6.b_tup (lst_of e3) fun p2 H4 n4 s4 e4 => ?_
          exact q _ rfl _ H4 (S2.trans (s3.trans s4)) (.tup e4 (t.tk s4.tk))
end
end K23
-- WIDE
namespace K23
open PySem PySem.Spec PyProof.Rows L2 Wy WN WQ WS WC WE WM W3 W4 W5 W7 W8 W9 W10 W23 WXD

theorem tp_cons {H : Hp} {us : List V} {d : PyData} {ds : List PyData} (h : TpAll H us (d :: ds)) : ∃ u r, us = u :: r ∧ Tp H u d ∧ TpAll H r ds := by
  cases h with
  | cons h1 h2 => exact ⟨_, _, rfl, h1, h2⟩
theorem tp_nil {H : Hp} {us : List V} (h : TpAll H us []) : us = [] := by
  cases h
  rfl
theorem at_when {H : Hp} {v : V} {r : Nat} {s : Str} {l e : Ex} (h : Tp H v (At.whn r s l e).d) : ∃ b x y, v = .ref b ∧ H b = some (.tup [.str "when", .int (r : Int), .str s, x, y]) ∧ Tp H x l.d ∧ Tp H y e.d := by
  obtain ⟨b, us, rfl, eb, t⟩ := tpL h
  obtain ⟨u0, us, rfl, t0, t⟩ := tp_cons t
  obtain ⟨u1, us, rfl, t1, t⟩ := tp_cons t
  obtain ⟨u2, us, rfl, t2, t⟩ := tp_cons t
  obtain ⟨u3, us, rfl, t3, t⟩ := tp_cons t
  obtain ⟨u4, us, rfl, t4, t⟩ := tp_cons t
  obtain rfl := tp_nil t
  cases t0
  cases t1
  cases t2
  exact ⟨b, u3, u4, rfl, eb, t3, t4⟩
/-- the parts of an atom that is no 'when': texts or numbers -/
def Pt (u : V) (w : Str) : Prop := u = .str w ∨ ∃ i : Int, u = .int i ∧ w = intS i ∧ i.natAbs < 10 ^ 10
theorem num_pt {r : Nat} (h : r < 10 ^ 10) : Pt (.int (r : Int)) (numS r) := .inr ⟨r, rfl, (toStr_nat (i := (r : Int)) (by omega)).symm, by omega⟩
theorem at_parts {H : Hp} {v : V} {a : At} (h : Tp H v a.d) (ho : a.ok) (hn : ∀ r s l e, a ≠ .whn r s l e) : ∃ b us, v = .ref b ∧ H b = some (.tup us) ∧ us.length = a.ws.length ∧ (∀ (j : Nat) (u : V) (w : Str), us[j]? = some u → a.ws[j]? = some w → Pt u w) ∧ a.tx = Txt.join WR.SP a.ws ∧ us[0]? = some (.str (wordAt a.ws 0)) ∧ wordAt a.ws 0 ≠ "when" := by
  obtain ⟨b, us, rfl, eb, t⟩ : ∃ b us, v = .ref b ∧ H b = some (.tup us) ∧ ∃ ds, a.d = .tuple ds ∧ TpAll H us ds := by
    cases a <;> obtain ⟨b, us, e1, e2, t⟩ := tpL h <;> exact ⟨b, us, e1, e2, _, rfl, t⟩
  obtain ⟨ds, ed, t⟩ := t
  cases a with
  | ev k r =>
    injection ed with ed
    subst ed
    obtain ⟨u0, us, rfl, t0, t⟩ := tp_cons t
    obtain ⟨u1, us, rfl, t1, t⟩ := tp_cons t
    obtain rfl := tp_nil t
    cases t0
    cases t1
    refine ⟨b, _, rfl, eb, rfl, fun j u w hu hw => ?_, rfl, rfl, (ks_ne ho.1).1⟩
    match j, hu, hw with
    | 0, hu, hw =>
      have hu : some (V.str k) = some u := hu
      have hw : some k = some w := hw
      injection hu with hu
      injection hw with hw
      exact .inl (by rw [← hu, hw])
    | 1, hu, hw =>
      have hu : some (V.int r) = some u := hu
      have hw : some (numS r) = some w := hw
      injection hu with hu
      injection hw with hw
      rw [← hu, ← hw]
      exact num_pt ho.2
  | turn r n =>
    injection ed with ed
    subst ed
    obtain ⟨u0, us, rfl, t0, t⟩ := tp_cons t
    obtain ⟨u1, us, rfl, t1, t⟩ := tp_cons t
    obtain ⟨u2, us, rfl, t2, t⟩ := tp_cons t
    obtain rfl := tp_nil t
    cases t0
    cases t1
    cases t2
    refine ⟨b, _, rfl, eb, rfl, fun j u w hu hw => ?_, rfl, rfl, turn_no.1⟩
    match j, hu, hw with
    | 0, hu, hw =>
      have hu : some (V.str "turn") = some u := hu
      have hw : some ("turn" : Str) = some w := hw
      injection hu with hu
      injection hw with hw
      exact .inl (by rw [← hu, hw])
    | 1, hu, hw =>
      have hu : some (V.int r) = some u := hu
      have hw : some (numS r) = some w := hw
      injection hu with hu
      injection hw with hw
      rw [← hu, ← hw]
      exact num_pt ho.1
    | 2, hu, hw =>
      have hu : some (V.int n) = some u := hu
      have hw : some (numS n) = some w := hw
      injection hu with hu
      injection hw with hw
      rw [← hu, ← hw]
      exact num_pt ho.2
  | fault r x =>
    injection ed with ed
    subst ed
    obtain ⟨u0, us, rfl, t0, t⟩ := tp_cons t
    obtain ⟨u1, us, rfl, t1, t⟩ := tp_cons t
    obtain ⟨u2, us, rfl, t2, t⟩ := tp_cons t
    obtain rfl := tp_nil t
    cases t0
    cases t1
    cases t2
    refine ⟨b, _, rfl, eb, rfl, fun j u w hu hw => ?_, rfl, rfl, fault_no.1⟩
    match j, hu, hw with
    | 0, hu, hw =>
      have hu : some (V.str "fault") = some u := hu
      have hw : some ("fault" : Str) = some w := hw
      injection hu with hu
      injection hw with hw
      exact .inl (by rw [← hu, hw])
    | 1, hu, hw =>
      have hu : some (V.int r) = some u := hu
      have hw : some (numS r) = some w := hw
      injection hu with hu
      injection hw with hw
      rw [← hu, ← hw]
      exact num_pt ho.1
    | 2, hu, hw =>
      have hu : some (V.str x) = some u := hu
      have hw : some x = some w := hw
      injection hu with hu
      injection hw with hw
      exact .inl (by rw [← hu, hw])
  | whn r s l e => exact absurd rfl (hn r s l e)
/-- texts of the parts -/
theorem ws_short {a : At} (h : a.ok) : ∀ w ∈ a.ws, w.length ≤ 14 := fun w hw => (at_wd h w hw).2
theorem cmp_wt {s : Str} {l r : Ex} : wt (.cmp s l r) ≤ 100000 := by
  rw [wt]
  decide
theorem strs_of {H : Hp} : ∀ {zs : List Str} {vs : List V}, TpAll H vs (zs.map PyData.str) → vs = zs.map V.str
  | [], _, h => by cases h; rfl
  | z :: zs, _, h => by
    cases h with
    | cons h1 h2 =>
      cases h1
      rw [strs_of h2]
      rfl
theorem sum_le {B : Nat} : ∀ {ps : List Str}, (∀ p ∈ ps, p.length ≤ B) → (ps.map (·.length)).sum ≤ ps.length * B
  | [], _ => by simp
  | p :: r, h => by
    have h1 := h p List.mem_cons_self
    have h2 := sum_le (ps := r) fun x hx => h x (List.mem_cons_of_mem _ hx)
    simp only [List.map_cons, List.sum_cons, List.length_cons, Nat.add_mul]
    omega
section
variable {P : Program} {w : World} {K : PySem.W.Frag} {mg : Str → Option Value} {base : Heap}
def spWAtom : Sp := fun vs H Q _ => ∃ (v : V) (a : At), vs = [v] ∧ Tp H v a.d ∧ a.ok ∧ ∀ H', Same H H' → Q (.str a.tx) H'
theorem k_write_atom (T : Tx w K mg) : C8.Cal P w K mg base 17 "_write_atom" spWAtom [] := by
  refine cal_of (N := n_write_atom) T.d_write_atom sc_write_atom (fun _ _ F => F.bindsN fun _ _ _ _ _ _ us hl => match us, hl with | [_], _ => rfl) (fun vs H Q E h => ?_) (fun f cdv A outer s H vs Q E hr h => ?_)
  · obtain ⟨_, _, rfl, _⟩ := h
    rfl
  · obtain ⟨v, a, rfl, ta, ho, q⟩ := h
    refine ⟨_, (pss_cons (ps_if (pt_cmpR (op_eq2 hr.units : OpR _ _ (rEq2 K)) (pe_ix (ix_seq : IxR _ (rIx K)) (pv 0) pe_int (fun _ _ => rfl)) pe_str (nomark _)) (pss_cons (ps_asg (pv 0) (pg_tup (by rfl) (pgs_cons (pg_name (i := 1) sc_write_atom.nd rfl (Or.inl rfl)) (pgs_cons (pg_name (i := 2) sc_write_atom.nd rfl (Or.inl rfl)) (pgs_cons (pg_name (i := 3) sc_write_atom.nd rfl (Or.inl rfl)) (pgs_cons (pg_name (i := 4) sc_write_atom.nd rfl (Or.inl rfl)) (pgs_cons (pg_name (i := 5) sc_write_atom.nd rfl (Or.inl rfl)) pgs_nil))))) : PG _ _ (gTup K _ _))) (pss_cons (ps_asg (C8.pe_c (k_write_condition T) hr (by first | decide | omega) (by rfl) (pa_cons (pe_tup (pa_cons pe_str (pa_cons (pv 3) (pa_cons (pv 4) (pa_cons (pv 5) pa_nil))))) pa_nil)) (pg_name (i := 6) sc_write_atom.nd rfl (Or.inl rfl))) (pss_one (ps_ret (pe_joined2 (PJ.cons pe_str (PJ.cons (pe_fmt (pv 2)) (PJ.cons pe_str (PJ.cons (pe_fmt (pv 6)) PJ.nil))))))))) pss_nil) (pss_one (ps_ret (pe_join2 pe_str (pe_lc (own := [("part", 7)]) (g := gName 7) (tt := tYes) (by rfl) sc_write_atom.nd (pi_tup (pv 0) : PI _ _ _ (iTup K _)) (blkOk_by (own := [("part", 7)]) (N := n_write_atom) (sc := defScope s_write_atom) (by decide +kernel)) (fun _ _ _ _ _ => pg_name (i := 7) sc_write_atom.nd rfl (Or.inl rfl)) (fun _ _ _ _ _ => pts_nil) (fun _ _ _ _ _ => (pe_callTy (WXD.call_strA : CallR _ _ WXD.rStrA) (by rfl) T.z_str (by decide +kernel) (pa_cons (pv 7) pa_nil)))) : PE _ _ (tM1 (rJoin K) _ _))))), ?_⟩
    by_cases hw : ∃ r s l e, a = .whn r s l e
    · obtain ⟨r, s', l, e, rfl⟩ := hw
      obtain ⟨b, x, y, rfl, eb, tx, ty⟩ := at_when ta
      obtain ⟨h1, h2, h3, h4⟩ := ho
      walk_at "xxZ"
      rename_i a1 H1 n1 s1 e1
      have hc : okC (.cmp s' l e) := by
        rw [okC]
        exact ⟨h2, h3, h4⟩
      have lt := text_len hc
      have lt2 : wt (.cmp s' l e) ≤ 100000 := cmp_wt
      have lr := (numS_len h1).2
      have small : ∀ n : Nat, n ≤ 200000 → n ≤ sizeLine := fun n h => by rw [sizeLine_eq]; omega
      refine ⟨_, .cmp s' l e, 0, rfl, ?_, hc, by rw [dp]; trivial, by decide, cmp_wt, fun H2 s2 => ?_⟩
      · rw [Cd.d]
        exact .tup e1 (.cons (.str _) (.cons (.str _) (.cons (tx.tk s1.tk) (.cons (ty.tk s1.tk) .nil))))
      have l0 : Str.empty.length = 0 := rfl
      have l1 : (Str.ofString "when ").length = 5 := by decide +kernel
      have l2 : (Str.ofString ": ").length = 2 := by decide +kernel
      have er : Str.ofString (toString ((r : Nat) : Int)) = numS r := toStr_nat (by omega)
      walk_at "xxZ"
      refine k_j (small _ (by simp only [app_len, l0, l1]; omega)) ?_
      walk_at "xxZ"
      refine k_fI (by omega) ?_
      refine k_j (small _ (by rw [er]; simp only [app_len, l0, l1]; omega)) ?_
      walk_at "xxZ"
      refine k_j (small _ (by rw [er]; simp only [app_len, l0, l1, l2]; omega)) ?_
      walk_at "xxZ"
      refine k_fS (small _ (by omega)) ?_
      refine k_j (small _ (by rw [er]; simp only [app_len, l0, l1, l2]; omega)) ?_
      walk_at "xxZ"
      have eo : Str.empty ++ Str.ofString "when " ++ Str.ofString (toString ((r : Nat) : Int)) ++ Str.ofString ": " ++ textC (.cmp s' l e) = (At.whn r s' l e).tx := by
        rw [er]
        refine str_ext ?_
        show tl _ = tl (("when " : Str) ++ numS r ++ (": " : Str) ++ textC (.cmp s' l e))
        simp only [tl_app]
        rfl
      rw [eo]
      exact q H2 (s1.trans s2)
    · obtain ⟨b, us, rfl, eb, hl, hp, etx, h0, hne⟩ := at_parts ta ho fun r s l e z => hw ⟨r, s, l, e, z⟩
      walk_at "xxZ"
      refine o_ixT (tup_of eb) (atI_nat (j := 0) h0) ?_
      walk_at "xxZ"
      refine iteFF (decide_eq_false fun z => hne (by injection z)) ?_
      walk_at "xxZ"
      have hwl := (at_len ho).1
      refine c_acc (xs := us) (.inr ⟨rfl, tup_of eb⟩) (One fun j y _ => a.ws[j]?.map V.str = some y) (fun _ _ _ _ _ h => h) (fun i acc H hi h => small1000' (by rw [h.1]; omega)) One.zero (fun j x H1 acc N M hx s1 o hN hM => ?_) (fun D H1 ys nD s1 e1 o => ?_)
      · have hj := (List.getElem?_eq_some_iff.mp hx).1
        have hp2 : a.ws[j]? = some a.ws[j] := List.getElem?_eq_getElem (by omega)
        refine g_name ⟨rfl, t_yes (iteTT rfl ?_)⟩
        have fin : N (.str a.ws[j]) H1 := hN _ _ (Same.refl _) (o.snoc (fun _ _ h => h) (by rw [hp2]; rfl))
        walk_at "xxZ"
        rcases hp j x _ hx hp2 with rfl | ⟨i, rfl, e, hi⟩
        · exact c_strS fin
        · refine c_strI (by omega) ?_
          rw [show Str.ofString (toString i) = a.ws[j] from e.symm]
          exact fin
      · have ey : ys = a.ws.map V.str := One.eq (by rw [← hl]; exact o) fun j y _ h => h
        subst ey
        refine m_join (lst_of e1) ?_ ?_
        · have h1 : (a.ws.map (·.length)).sum ≤ a.ws.length * 14 := sum_le (ws_short ho)
          have e : (Str.ofString " ").length = 1 := rfl
          rw [e]
          omega
        · rw [show Txt.join (Str.ofString " ") a.ws = a.tx from etx.symm]
          exact q H1 s1
theorem tx_len {a : At} (h : a.ok) : a.tx.length ≤ 110000 := by
  by_cases hw : ∃ r s l e, a = .whn r s l e
  · obtain ⟨r, s', l, e, rfl⟩ := hw
    obtain ⟨h1, h2, h3, h4⟩ := h
    have hc : okC (.cmp s' l e) := by
      rw [okC]
      exact ⟨h2, h3, h4⟩
    have lt := text_len hc
    have lt2 : wt (.cmp s' l e) ≤ 100000 := cmp_wt
    have lr := (numS_len h1).2
    have l1 : ("when " : Str).length = 5 := by decide +kernel
    have l2 : (": " : Str).length = 2 := by decide +kernel
    show (("when " : Str) ++ numS r ++ (": " : Str) ++ textC (.cmp s' l e)).length ≤ _
    simp only [app_len, l1, l2]
    omega
  · have e : a.tx = Txt.join WR.SP a.ws := by
      cases a with
      | ev k r => rfl
      | turn r n => rfl
      | fault r w => rfl
      | whn r s l e => exact absurd ⟨r, s, l, e, rfl⟩ hw
    have hj := WR.join_len (y := WR.SP) (ps := a.ws) (B := 14) (ws_short h)
    have e1 : WR.SP.length = 1 := by decide +kernel
    have := (at_len h).1
    rw [e1] at hj
    rw [e]
    omega
def spWPlace : Sp := fun vs H Q _ => ∃ (v : V) (ps : List At), vs = [v] ∧ Tp H v (.tuple (ps.map At.d)) ∧ (∀ a ∈ ps, a.ok) ∧ ps.length ≤ 3 ∧ ∀ H', Same H H' → Q (.str (Txt.join JT (ps.map At.tx))) H'
theorem k_write_place (T : Tx w K mg) : C8.Cal P w K mg base 18 "write_place" spWPlace [] := by
  refine cal_of (N := n_write_place) T.d_write_place sc_write_place (fun _ _ F => F.bindsN fun _ _ _ _ _ _ us hl => match us, hl with | [_], _ => rfl) (fun vs H Q E h => ?_) (fun f cdv A outer s H vs Q E hr h => ?_)
  · obtain ⟨_, _, rfl, _⟩ := h
    rfl
  · obtain ⟨v, ps, rfl, tv, ho, hl, q⟩ := h
    obtain ⟨b, us, rfl, eb, t⟩ := tpL tv
    refine ⟨_, (pss_one (ps_ret (pe_join2 pe_str (pe_lc (own := [("atom", 1)]) (g := gName 1) (tt := tYes) (by rfl) sc_write_place.nd (pi_tup (pv 0) : PI _ _ _ (iTup K _)) (blkOk_by (own := [("atom", 1)]) (N := n_write_place) (sc := defScope s_write_place) (by decide +kernel)) (fun _ _ _ _ _ => pg_name (i := 1) sc_write_place.nd rfl (Or.inl rfl)) (fun _ _ _ _ _ => pts_nil) (fun _ _ _ _ _ => (C8.pe_c (k_write_atom T) hr (by first | decide | omega) (by rfl) (pa_cons (pv 1) pa_nil)))) : PE _ _ (tM1 (rJoin K) _ _)))), ?_⟩
    have lu := t.length
    rw [List.length_map] at lu
    walk_at "xxZ"
    refine c_sel (p := fun _ => true) (F := At.d) (G := fun a => PyData.str a.tx) (.inr ⟨rfl, tup_of eb⟩) t (by omega) (fun x => rfl) (fun x u H1 N hx t s1 hN => ?_) (fun x u H1 N hx hp t s1 hN => ?_) (fun D H1 ys nD s1 e1 t => ?_)
    · walk_at "xxZ"
      exact hN H1 (Same.refl _)
    · walk_at "xxZ"
      exact ⟨u, x, rfl, t, ho x hx, fun H2 s2 => hN _ H2 s2 (.str _)⟩
    · have e : ps.filter (fun _ => true) = ps := List.filter_eq_self.mpr fun _ _ => rfl
      rw [e] at t
      have ey : ys = (ps.map At.tx).map V.str := strs_of (by rw [List.map_map]; exact t)
      subst ey
      refine m_join (lst_of e1) ?_ (q H1 s1)
      have h1 : ((ps.map At.tx).map (·.length)).sum ≤ (ps.map At.tx).length * 110000 := sum_le fun p hp => by
        obtain ⟨a, ha, rfl⟩ := List.mem_map.mp hp
        exact tx_len (ho a ha)
      have e : (Str.ofString " then ").length = 6 := by decide +kernel
      rw [e]
      rw [List.length_map] at h1 ⊢
      omega
end
end K23
-- WIDE
namespace K23
open PySem PySem.Spec PyProof.Rows L2 Wy WN WQ WS WC WE WM W3 W4 W5 W7 W8 W9 W10 W23 WXD

section
variable {P : Program} {w : World} {K : PySem.W.Frag} {mg : Str → Option Value} {base : Heap}
def spWide : Sp := fun vs H Q _ => ∃ (h d : Addr) (m : Int), vs = [.ref h, .int m] ∧ HandAt H h d ∧ 0 < m ∧ ∀ r H', 0 ≤ r → r < m → Keep h H H' → HandAt H' h d → Q (.int r) H'
theorem k_law_wide (T : Tx w K mg) : C8.Cal P w K mg base 2 "_law_wide" spWide [] := by
  refine cal_of (N := n_law_wide) T.d_law_wide sc_law_wide (fun _ _ F => F.bindsN fun _ _ _ _ _ _ us hl => match us, hl with | [_, _], _ => rfl) (fun vs H Q E h => ?_) (fun f cdv A outer s H vs Q E hr h => ?_)
  · obtain ⟨a, d, m, rfl, _⟩ := h
    rfl
  · obtain ⟨a, d, m, rfl, hh, hm, q⟩ := h
    refine ⟨_, (pss_cons (ps_asg (C8.pe_c (k_law_take T) hr (by first | decide | omega) (by rfl) (pa_cons (pv 0) (pa_cons pe_int pa_nil))) (pg_name (i := 2) sc_law_wide.nd rfl (Or.inl rfl))) (pss_one (ps_ret (pe_op op_mod (pe_callTy call_int2 (by rfl) T.z_int (by decide +kernel) (pa_cons (pe_op op_add3 (pe_op op_mul2 (pv 2) pe_int) (C8.pe_c (k_law_take T) hr (by first | decide | omega) (by rfl) (pa_cons (pv 0) (pa_cons pe_int pa_nil)))) pa_nil)) (pv 1))))), ?_⟩
    walk_at "xxZ"
    refine ⟨a, d, _, rfl, hh, by omega, fun r H1 r0 r1 c1 hh1 => ?_⟩
    walk_at "xxZ"
    refine ⟨a, d, _, rfl, hh1, by omega, fun r2 H2 r3 r4 c2 hh2 => ?_⟩
    walk_at "xxZ"
    exact q _ H2 (Int.emod_nonneg _ (by omega)) (Int.emod_lt_of_pos _ hm) (c1.keep.trans c2.keep) hh2
def spGenNum : Sp := fun vs H Q _ => ∃ (h d : Addr), vs = [.ref h] ∧ HandAt H h d ∧ ∀ r H', 0 ≤ r → r < 10 ^ 10 → Keep h H H' → HandAt H' h d → Q (.int r) H'
theorem k_law_number (T : Tx w K mg) : C8.Cal P w K mg base 3 "_law_number" spGenNum [] := by
  refine cal_of (N := n_law_number) T.d_law_number sc_law_number (fun _ _ F => F.bindsN fun _ _ _ _ _ _ us hl => match us, hl with | [_], _ => rfl) (fun vs H Q E h => ?_) (fun f cdv A outer s H vs Q E hr h => ?_)
  · obtain ⟨a, d, rfl, _⟩ := h
    rfl
  · obtain ⟨a, d, rfl, hh, q⟩ := h
    refine ⟨_, (pss_cons (ps_asg (pe_ix (ix_seq : IxR _ (rIx K)) (pe_lst (pa_cons pe_int (pa_cons pe_int (pa_cons pe_int (pa_cons (pe_op op_pow pe_int pe_int) pa_nil))))) (C8.pe_c (k_law_take T) hr (by first | decide | omega) (by rfl) (pa_cons (pv 0) (pa_cons pe_int pa_nil))) (fun _ _ => rfl)) (pg_name (i := 1) sc_law_number.nd rfl (Or.inl rfl))) (pss_one (ps_ret (C8.pe_c (k_law_wide T) hr (by first | decide | omega) (by rfl) (pa_cons (pv 0) (pa_cons (pv 1) pa_nil)))))), ?_⟩
    walk_at "xxZ"
    rename_i p1 H1 n1 s1 e1
    have nn := hh.new n1
    refine ⟨a, d, _, rfl, hh.same s1, by omega, fun r H2 r0 r1 c2 hh2 => ?_⟩
    have e2 := c2.at e1 nn.1.symm
    obtain ⟨z, g, z0, z1⟩ : ∃ z : Int, atI [V.int 10, .int 100, .int 1000000, .int (10 ^ 10)] r = some (.int z) ∧ 0 < z ∧ z ≤ 10 ^ 10 := by
      have : r = 0 ∨ r = 1 ∨ r = 2 ∨ r = 3 := by omega
      rcases this with rfl | rfl | rfl | rfl
      · exact ⟨10, rfl, by decide, by decide⟩
      · exact ⟨100, rfl, by decide, by decide⟩
      · exact ⟨1000000, rfl, by decide, by decide⟩
      · exact ⟨10 ^ 10, rfl, by decide, by decide⟩
    refine o_ixL (lst_of e2) g ?_
    walk_at "xxZ"
    exact ⟨a, d, z, rfl, hh2, z0, fun r3 H3 r4 r5 k3 hh3 => q r3 H3 r4 (by omega) ((s1.keep.trans c2.keep).trans k3) hh3⟩
def spGenName : Sp := fun vs H Q _ => ∃ (h d : Addr), vs = [.ref h] ∧ HandAt H h d ∧ ∀ x H', nameW x = true → Keep h H H' → HandAt H' h d → Q (.str x) H'
theorem letter_at {j : Nat} (h : j < 26) : ∃ c, atI LET.cps.toList (j : Int) = some c ∧ c ∈ tl LET := by
  have hl : j < LET.length := Nat.lt_of_lt_of_le h (by decide +kernel)
  obtain ⟨c, g1, g2⟩ := atI_cps hl
  exact ⟨c, g2, List.mem_of_getElem? g1⟩
theorem reserved_z : ∀ x ∈ RESV, ∀ y, x = V.str y → nameW (cutS y none (some 11) ++ ("z" : Str)) = true := by
  have h : RESV.all (fun x => match x with | .str y => nameW (cutS y none (some 11) ++ ("z" : Str)) | _ => false) = true := by decide +kernel
  intro x hx y e
  have := List.all_eq_true.mp h x hx
  rw [e] at this
  exact this
theorem inV_mem {y : Str} : ∀ {xs : List V}, inV (.str y) xs = true → ∃ x ∈ xs, x = V.str y := by
  intro xs h
  obtain ⟨x, hx, e⟩ := List.any_eq_true.mp h
  refine ⟨x, hx, ?_⟩
  cases x with
  | str z => exact congrArg V.str (eq_of_beq (show (z == y) = true from e))
  | _ => cases e
theorem inV_no {x : V} {y : Str} {xs : List V} (h : inV (.str y) xs = true) : ∃ x ∈ xs, x = V.str y := inV_mem h
abbrev ALT : List V := [.str "input", .str "rows", .str "check", .str "ro", .str "the", .str "then", .str "thena", .str "no", .str "at", .str "index"]
theorem alt_at {j : Nat} (h : j < 10) : ∃ y : Str, ALT[j]? = some (.str y) ∧ 1 ≤ y.length ∧ y.length ≤ 12 ∧ ∀ c ∈ tl y, c ∈ tl LET := by
  have key : ∀ j, j < 10 → (match ALT[j]? with | some (V.str y) => decide (1 ≤ y.length) && decide (y.length ≤ 12) && decide (∀ c ∈ tl y, c ∈ tl LET) | _ => false) = true := by decide +kernel
  have k := key j h
  have hj : j < ALT.length := h
  rw [List.getElem?_eq_getElem hj] at k ⊢
  cases e : ALT[j] with
  | str y =>
    rw [e] at k
    simp only [Bool.and_eq_true, decide_eq_true_eq] at k
    exact ⟨y, rfl, k.1.1, k.1.2, k.2⟩
  | _ =>
    rw [e] at k
    cases k
theorem k_law_word (T : Tx w K mg) : C8.Cal P w K mg base 2 "_law_word" spGenName [] := by
  refine cal_of (N := n_law_word) T.d_law_word sc_law_word (fun _ _ F => F.bindsN fun _ _ _ _ _ _ us hl => match us, hl with | [_], _ => rfl) (fun vs H Q E h => ?_) (fun f cdv A outer s H vs Q E hr h => ?_)
  · obtain ⟨a, d, rfl, _⟩ := h
    rfl
  · obtain ⟨a, d, rfl, hh, q⟩ := h
    refine ⟨_, (pss_cons (ps_asg (pe_lst (pa_cons pe_str (pa_cons pe_str (pa_cons pe_str (pa_cons pe_str (pa_cons pe_str (pa_cons pe_str (pa_cons pe_str (pa_cons pe_str (pa_cons pe_str (pa_cons pe_str (pa_cons pe_str (pa_cons pe_str (pa_cons pe_str pa_nil)))))))))))))) (pg_name (i := 1) sc_law_word.nd rfl (Or.inl rfl))) (pss_cons (ps_asg (pe_op op_add3 (pv 1) (pe_lst (pa_cons pe_str (pa_cons pe_str (pa_cons pe_str (pa_cons pe_str (pa_cons pe_str (pa_cons pe_str (pa_cons pe_str (pa_cons pe_str (pa_cons pe_str (pa_cons pe_str (pa_cons pe_str pa_nil))))))))))))) (pg_name (i := 1) sc_law_word.nd rfl (Or.inl rfl))) (pss_cons (ps_asg (pe_op op_add3 (pv 1) (pe_lst (pa_cons pe_str (pa_cons pe_str (pa_cons pe_str pa_nil))))) (pg_name (i := 1) sc_law_word.nd rfl (Or.inl rfl))) (pss_cons (ps_asg pe_str (pg_name (i := 2) sc_law_word.nd rfl (Or.inl rfl))) (pss_cons (ps_for PassesOwn.never rfl (pi_range1 (by rfl) T.z_range (pa_cons (pe_ix (ix_seq : IxR _ (rIx K)) (pe_lst (pa_cons (pe_op op_add3 pe_int (C8.pe_c (k_law_take T) hr (by first | decide | omega) (by rfl) (pa_cons (pv 0) (pa_cons pe_int pa_nil)))) (pa_cons (pe_op op_add3 pe_int (C8.pe_c (k_law_take T) hr (by first | decide | omega) (by rfl) (pa_cons (pv 0) (pa_cons pe_int pa_nil)))) pa_nil))) (C8.pe_c (k_law_take T) hr (by first | decide | omega) (by rfl) (pa_cons (pv 0) (pa_cons pe_int pa_nil))) (fun _ _ => rfl)) pa_nil)) (pg_name (i := 3) sc_law_word.nd rfl (Or.inl rfl)) (pss_one (ps_asg (pe_op op_add3 (pv 2) (pe_ix (ix_seq : IxR _ (rIx K)) pe_str (C8.pe_c (k_law_take T) hr (by first | decide | omega) (by rfl) (pa_cons (pv 0) (pa_cons pe_int pa_nil))) (fun _ _ => rfl))) (pg_name (i := 2) sc_law_word.nd rfl (Or.inl rfl))))) (C8.pss_cut (ps_if (pt_cmpR (op_eq2 hr.units : OpR _ _ (rEq2 K)) (C8.pe_c (k_law_take T) hr (by first | decide | omega) (by rfl) (pa_cons (pv 0) (pa_cons pe_int pa_nil))) pe_int (nomark _)) (pss_one (ps_asg (pe_ix (ix_seq : IxR _ (rIx K)) (pe_lst (pa_cons pe_str (pa_cons pe_str (pa_cons pe_str (pa_cons pe_str (pa_cons pe_str (pa_cons pe_str (pa_cons pe_str (pa_cons pe_str (pa_cons pe_str (pa_cons pe_str pa_nil))))))))))) (C8.pe_c (k_law_take T) hr (by first | decide | omega) (by rfl) (pa_cons (pv 0) (pa_cons pe_int pa_nil))) (fun _ _ => rfl)) (pg_name (i := 2) sc_law_word.nd rfl (Or.inl rfl)))) pss_nil) (C8.pss_cut (ps_if (pt_cmpR (op_in2 : OpR _ _ (rIn2 K)) (pv 2) (pv 1) (by rfl)) (pss_one (ps_asg (pe_op op_add3 (pe_slice (sl_2 : SlR _ (rSl2 K)) (pv 2) po_none (po_some pe_int)) pe_str) (pg_name (i := 2) sc_law_word.nd rfl (Or.inl rfl)))) pss_nil) (pss_one (ps_ret (pv 2)))))))))), ?_⟩
    walk_at "xxZ"
    rename_i q1 H1 n1 s1 e1 q2 H2 n2 s2 e2
    refine o_addL (s2 _ _ e1) e2 (by rw [sizeLine_eq]; simp only [List.length_cons, List.length_nil]; omega) fun q3 H3 n3 s3 e3 => ?_
    walk_at "xxZ"
    rename_i q4 H4 n4 s4 e4
    refine o_addL (s4 _ _ e3) e4 (by rw [sizeLine_eq]; simp only [List.length_append, List.length_cons, List.length_nil]; omega) fun q5 H5 n5 s5 e5 => ?_
    have e5 : H5 q5 = some (.lst RESV) := e5
    have S5 : Same H H5 := s1.trans (s2.trans (s3.trans (s4.trans s5)))
    have n5 : H q5 = none := (s1.trans (s2.trans (s3.trans s4))).free n5
    have hh5 := hh.same S5
    clear e1 e2 e3 e4 s1 s2 s3 s4 s5 n1 n2 n3 n4
    have qa : q5 ≠ a := (hh.new n5).1.symm
    walk_at "xxZ"
    refine ⟨a, d, _, rfl, hh5, by omega, fun r H6 r0 r1 c6 hh6 => ?_⟩
    walk_at "xxZ"
    refine ⟨a, d, _, rfl, hh6, by omega, fun r2 H7 r20 r21 c7 hh7 => ?_⟩
    walk_at "xxZ"
    rename_i q8 H8 n8 s8 e8
    have hh8 := hh7.same s8
    have nn8 := hh7.new n8
    refine ⟨a, d, _, rfl, hh8, by omega, fun r3 H9 r30 r31 c9 hh9 => ?_⟩
    have e9 := c9.at e8 nn8.1.symm
    have K9 : Keep a H H9 := (((S5.keep.trans c6.keep).trans c7.keep).trans s8.keep).trans c9.keep
    obtain ⟨n, g, hn0, hn1⟩ : ∃ n : Nat, atI [V.int (1 + r), .int (1 + r2)] r3 = some (.int (n : Int)) ∧ 1 ≤ n ∧ n ≤ 12 := by
      have : r3 = 0 ∨ r3 = 1 := by omega
      rcases this with rfl | rfl
      · exact ⟨(1 + r).toNat, by rw [Int.toNat_of_nonneg (by omega)]; rfl, by omega, by omega⟩
      · exact ⟨(1 + r2).toNat, by rw [Int.toNat_of_nonneg (by omega)]; rfl, by omega, by omega⟩
    refine o_ixL (lst_of e9) g ?_
    have er9 : H9 q5 = some (.lst RESV) := c9.at (s8 _ _ (c7.at (c6.at e5 qa) qa)) qa
    clear e9 e8 s8 n8 c9 c7 c6 hh6 hh7 hh8 nn8 g
    walk_at "xxZ"
    refine f_range (fun i σ H' => ∃ (z : Str) (x : Option V), σ = [some (.ref a), some (.ref q5), some (.str z), x] ∧ z.length = i ∧ (∀ c ∈ tl z, c ∈ tl LET) ∧ Keep a H H' ∧ HandAt H' a d ∧ H' q5 = some (.lst RESV)) ⟨"", none, rfl, by decide +kernel, by decide +kernel, K9, hh9, er9⟩ (fun i σ H3 hi p => ?_) (fun σ H3 p => ?_)
    · obtain ⟨z, x, rfl, lz1, hz, k3, hh3, er3⟩ := p
      walk_at "xxZ"
      refine ⟨a, d, _, rfl, hh3, by omega, fun r5 H5 r50 r51 c5 hh5 => ?_⟩
      obtain ⟨j, hj⟩ : ∃ j : Nat, r5 = (j : Int) := ⟨r5.toNat, by omega⟩
      subst hj
      obtain ⟨c, g2, hc⟩ := letter_at (j := j) (by omega)
      refine o_ixS (by decide +kernel) g2 ?_
      walk_at "xxZ"
      refine o_addS (by rw [sizeLine_eq]; show z.length + 1 ≤ _; omega) ?_
      walk_at "xxZ"
      refine ⟨z ++ ⟨#[c]⟩, _, rfl, by rw [app_len, lz1]; rfl, fun x hx => ?_, k3.trans c5.keep, hh5, c5.at er3 qa⟩
      rw [tl_app] at hx
      rcases List.mem_append.mp hx with hx | hx
      · exact hz x hx
      · rw [show x = c by simpa using hx]
        exact hc
    · obtain ⟨z, x, rfl, lz1, hz, k3, hh3, er3⟩ := p
      rw [Int.toNat_natCast] at lz1
      walk_at "xxZ"
      refine s_cut (fun σ H' => ∃ (z : Str) (x : Option V), σ = [some (.ref a), some (.ref q5), some (.str z), x] ∧ 1 ≤ z.length ∧ z.length ≤ 12 ∧ (∀ c ∈ tl z, c ∈ tl LET) ∧ Keep a H H' ∧ HandAt H' a d ∧ H' q5 = some (.lst RESV)) ?_ (fun σ H5 p5 => ?_)
      · walk_at "xxZ"
        refine ⟨a, d, _, rfl, hh3, by omega, fun r5 H4 r50 r51 c4 hh4 => ?_⟩
        have er4 := c4.at er3 qa
        have k4 := k3.trans c4.keep
        walk_at "xxZ"
        refine iteI (fun e => ?_) (fun e => ?_)
        rotate_left
        · walk_at "xxZ"
          exact ⟨z, x, rfl, by omega, by omega, hz, k4, hh4, er4⟩
        walk_at "xxZ"
        rename_i q6 H6 n6 s6 e6
        have hh6 := hh4.same s6
        have nn6 := hh4.new n6
        refine ⟨a, d, _, rfl, hh6, by omega, fun r7 H7 r70 r71 c7 hh7 => ?_⟩
        obtain ⟨j, hj⟩ : ∃ j : Nat, r7 = (j : Int) := ⟨r7.toNat, by omega⟩
        subst hj
        obtain ⟨y, gy, y1, y2, y3⟩ := alt_at (j := j) (by omega)
        refine o_ixL (lst_of (c7.at e6 nn6.1.symm)) (atI_nat gy) ?_
        walk_at "xxZ"
        exact ⟨y, x, rfl, y1, y2, y3, (k4.trans s6.keep).trans c7.keep, hh7, c7.at (s6 _ _ er4) qa⟩
      clear hz lz1 x z
      obtain ⟨z, x, rfl, z1, z2, hz, k5, hh5, er5⟩ := p5
      walk_at "xxZ"
      refine s_cut (fun σ H' => ∃ (z : Str) (x : Option V), σ = [some (.ref a), some (.ref q5), some (.str z), x] ∧ nameW z = true ∧ H' = H5) ?_ (fun σ H6 p6 => ?_)
      · walk_at "xxZ"
        refine o_inL (lst_of er5) rfl (by decide +kernel) ?_
        walk_at "xxZ"
        cases hv : inV (.str z) RESV with
        | true =>
          walk_at "xxZ"
          refine l_S (by rw [sizeLine_eq]; omega) ?_
          walk_at "xxZ"
          have lc : (cutS z none (some 11)).length ≤ z.length := cutS_length _ _ _
          refine o_addS (by rw [sizeLine_eq]; show _ + 1 ≤ _; omega) ?_
          walk_at "xxZ"
          obtain ⟨v, hv, ev⟩ := inV_mem hv
          exact ⟨_, x, rfl, reserved_z v hv z ev, rfl⟩
        | false =>
          walk_at "xxZ"
          refine ⟨z, x, rfl, ?_, rfl⟩
          unfold nameW
          rw [decide_eq_true z1, decide_eq_true z2, decide_eq_true hz, hv]
          rfl
      clear hz z1 z2 z x
      obtain ⟨z, x, rfl, hz, rfl⟩ := p6
      walk_at "xxZ"
      exact q z _ hz k5 hh5
def spGenS : Sp := fun vs H Q _ => ∃ (h d : Addr), vs = [.ref h] ∧ HandAt H h d ∧ ∀ r H', r.natAbs < 10 ^ 10 → Keep h H H' → HandAt H' h d → Q (.int r) H'
theorem prod_bound {a b : Int} (h1 : a.natAbs < 10 ^ 10) (h3 : b = -1 ∨ b = 0 ∨ b = 1) : (a * b).natAbs < 10 ^ 10 := by
  rcases h3 with rfl | rfl | rfl
  · rw [Int.mul_neg, Int.mul_one]
    omega
  · rw [Int.mul_zero]
    omega
  · rw [Int.mul_one]
    omega
theorem k_law_signed (T : Tx w K mg) : C8.Cal P w K mg base 4 "_law_signed" spGenS [] := by
  refine cal_of (N := n_law_signed) T.d_law_signed sc_law_signed (fun _ _ F => F.bindsN fun _ _ _ _ _ _ us hl => match us, hl with | [_], _ => rfl) (fun vs H Q E h => ?_) (fun f cdv A outer s H vs Q E hr h => ?_)
  · obtain ⟨a, d, rfl, _⟩ := h
    rfl
  · obtain ⟨a, d, rfl, hh, q⟩ := h
    refine ⟨_, (pss_one (ps_ret (pe_op op_mul2 (C8.pe_c (k_law_number T) hr (by first | decide | omega) (by rfl) (pa_cons (pv 0) pa_nil)) (pe_op op_sub pe_int (pe_op op_mul2 pe_int (C8.pe_c (k_law_take T) hr (by first | decide | omega) (by rfl) (pa_cons (pv 0) (pa_cons pe_int pa_nil)))))))), ?_⟩
    walk_at "xxZ"
    refine ⟨a, d, rfl, hh, fun r H1 r0 r1 k1 hh1 => ?_⟩
    walk_at "xxZ"
    refine ⟨a, d, _, rfl, hh1, by omega, fun r2 H2 r20 r21 c2 hh2 => ?_⟩
    walk_at "xxZ"
    exact q _ H2 (prod_bound (by omega) (by omega)) (k1.trans c2.keep) hh2
def spGenE (G : Ex → Prop) : Sp := fun vs H Q _ => ∃ (h d : Addr), vs = [.ref h] ∧ HandAt H h d ∧ ∀ v e H', G e → Tp H' v e.d → Keep h H H' → HandAt H' h d → Q v H'
theorem k_law_plain (T : Tx w K mg) : C8.Cal P w K mg base 5 "_law_plain" (spGenE Plain) [] := by
  refine cal_of (N := n_law_plain) T.d_law_plain sc_law_plain (fun _ _ F => F.bindsN fun _ _ _ _ _ _ us hl => match us, hl with | [_], _ => rfl) (fun vs H Q E h => ?_) (fun f cdv A outer s H vs Q E hr h => ?_)
  · obtain ⟨a, d, rfl, _⟩ := h
    rfl
  · obtain ⟨a, d, rfl, hh, q⟩ := h
    refine ⟨_, (pss_cons (ps_if (pt_cmpR (op_eq2 hr.units : OpR _ _ (rEq2 K)) (C8.pe_c (k_law_take T) hr (by first | decide | omega) (by rfl) (pa_cons (pv 0) (pa_cons pe_int pa_nil))) pe_int (nomark _)) (pss_one (ps_ret (pe_tup (pa_cons pe_str (pa_cons (C8.pe_c (k_law_signed T) hr (by first | decide | omega) (by rfl) (pa_cons (pv 0) pa_nil)) pa_nil))))) pss_nil) (pss_one (ps_ret (pe_tup (pa_cons pe_str (pa_cons (C8.pe_c (k_law_word T) hr (by first | decide | omega) (by rfl) (pa_cons (pv 0) pa_nil)) (pa_cons (pe_op op_mul2 (C8.pe_c (k_law_signed T) hr (by first | decide | omega) (by rfl) (pa_cons (pv 0) pa_nil)) (C8.pe_c (k_law_take T) hr (by first | decide | omega) (by rfl) (pa_cons (pv 0) (pa_cons pe_int pa_nil)))) pa_nil))))))), ?_⟩
    walk_at "xxZ"
    refine ⟨a, d, _, rfl, hh, by omega, fun r H1 r0 r1 c1 hh1 => ?_⟩
    walk_at "xxZ"
    refine iteI (fun e => ?_) (fun e => ?_)
    · walk_at "xxZ"
      refine ⟨a, d, rfl, hh1, fun n H2 hn k2 hh2 => ?_⟩
      walk_at "xxZ"
      rename_i p3 H3 n3 s3 e3
      exact q _ (.num n) H3 hn (.tup e3 (.cons (.str _) (.cons (.int _) .nil))) ((c1.keep.trans k2).trans s3.keep) (hh2.same s3)
    · walk_at "xxZ"
      refine ⟨a, d, rfl, hh1, fun x H2 hx k2 hh2 => ?_⟩
      walk_at "xxZ"
      refine ⟨a, d, rfl, hh2, fun n H3 hn k3 hh3 => ?_⟩
      walk_at "xxZ"
      refine ⟨a, d, _, rfl, hh3, by omega, fun r3 H4 r4 r5 c4 hh4 => ?_⟩
      walk_at "xxZ"
      rename_i p5 H5 n5 s5 e5
      exact q _ (.var x (n * r3)) H5 ⟨hx, prod_bound hn (by omega)⟩ (.tup e5 (.cons (.str _) (.cons (.str _) (.cons (.int _) .nil)))) ((((c1.keep.trans k2).trans k3).trans c4.keep).trans s5.keep) (hh4.same s5)
theorem k_law_expression (T : Tx w K mg) : C8.Cal P w K mg base 6 "_law_expression" (spGenE Good) [] := by
  refine cal_of (N := n_law_expression) T.d_law_expression sc_law_expression (fun _ _ F => F.bindsN fun _ _ _ _ _ _ us hl => match us, hl with | [_], _ => rfl) (fun vs H Q E h => ?_) (fun f cdv A outer s H vs Q E hr h => ?_)
  · obtain ⟨a, d, rfl, _⟩ := h
    rfl
  · obtain ⟨a, d, rfl, hh, q⟩ := h
    refine ⟨_, (pss_cons (ps_if (pt_cmpR (op_eq2 hr.units : OpR _ _ (rEq2 K)) (C8.pe_c (k_law_take T) hr (by first | decide | omega) (by rfl) (pa_cons (pv 0) (pa_cons pe_int pa_nil))) pe_int (nomark _)) (pss_one (ps_ret (C8.pe_c (k_law_plain T) hr (by first | decide | omega) (by rfl) (pa_cons (pv 0) pa_nil)))) pss_nil) (pss_one (ps_ret (pe_tup (pa_cons pe_str (pa_cons (C8.pe_c (k_law_word T) hr (by first | decide | omega) (by rfl) (pa_cons (pv 0) pa_nil)) (pa_cons (C8.pe_c (k_law_plain T) hr (by first | decide | omega) (by rfl) (pa_cons (pv 0) pa_nil)) (pa_cons (pe_op op_mul2 (C8.pe_c (k_law_signed T) hr (by first | decide | omega) (by rfl) (pa_cons (pv 0) pa_nil)) (C8.pe_c (k_law_take T) hr (by first | decide | omega) (by rfl) (pa_cons (pv 0) (pa_cons pe_int pa_nil)))) pa_nil)))))))), ?_⟩
    walk_at "xxZ"
    refine ⟨a, d, _, rfl, hh, by omega, fun r H1 r0 r1 c1 hh1 => ?_⟩
    walk_at "xxZ"
    refine iteI (fun e => ?_) (fun e => ?_)
    · walk_at "xxZ"
      exact ⟨a, d, rfl, hh1, fun v e H2 pe te k2 hh2 => q v e H2 pe.good te (c1.keep.trans k2) hh2⟩
    · walk_at "xxZ"
      refine ⟨a, d, rfl, hh1, fun x H2 hx k2 hh2 => ?_⟩
      walk_at "xxZ"
      refine ⟨a, d, rfl, hh2, fun v i H3 pi ti k3 hh3 => ?_⟩
      walk_at "xxZ"
      refine ⟨a, d, rfl, hh3, fun n H4 hn k4 hh4 => ?_⟩
      walk_at "xxZ"
      refine ⟨a, d, _, rfl, hh4, by omega, fun r3 H5 r4 r5 c5 hh5 => ?_⟩
      walk_at "xxZ"
      rename_i p6 H6 n6 s6 e6
      have ti6 := Tp.tk s6.tk (Tp.tk (hh4.chg_tk c5) (Tp.tk (hh3.keep_tk k4) ti))
      exact q _ (.item x i (n * r3)) H6 ⟨hx, pi, prod_bound hn (by omega)⟩ (.tup e6 (.cons (.str _) (.cons (.str _) (.cons ti6 (.cons (.int _) .nil))))) (((((c1.keep.trans k2).trans k3).trans k4).trans c5.keep).trans s6.keep) (hh5.same s6)
def spGenA : Sp := fun vs H Q _ => ∃ (h d : Addr), vs = [.ref h] ∧ HandAt H h d ∧ ∀ v (a : At) H', a.ok → Tp H' v a.d → Keep h H H' → HandAt H' h d → Q v H'
theorem nat_of {r : Int} (h : 0 ≤ r) : ∃ n : Nat, r = (n : Int) := ⟨r.toNat, by omega⟩
theorem k_law_atom (T : Tx w K mg) : C8.Cal P w K mg base 7 "_law_atom" spGenA [] := by
  refine cal_of (N := n_law_atom) T.d_law_atom sc_law_atom (fun _ _ F => F.bindsN fun _ _ _ _ _ _ us hl => match us, hl with | [_], _ => rfl) (fun vs H Q E h => ?_) (fun f cdv A outer s H vs Q E hr h => ?_)
  · obtain ⟨a, d, rfl, _⟩ := h
    rfl
  · obtain ⟨a, d, rfl, hh, q⟩ := h
    refine ⟨_, (pss_cons (ps_asg (C8.pe_c (k_law_take T) hr (by first | decide | omega) (by rfl) (pa_cons (pv 0) (pa_cons pe_int pa_nil))) (pg_name (i := 1) sc_law_atom.nd rfl (Or.inl rfl))) (pss_cons (ps_asg (C8.pe_c (k_law_number T) hr (by first | decide | omega) (by rfl) (pa_cons (pv 0) pa_nil)) (pg_name (i := 2) sc_law_atom.nd rfl (Or.inl rfl))) (pss_cons (ps_if (pt_cmpR op_lt (pv 1) pe_int (nomark _)) (pss_one (ps_ret (pe_tup (pa_cons (pe_ix (ix_seq : IxR _ (rIx K)) (pe_lst (pa_cons pe_str (pa_cons pe_str (pa_cons pe_str pa_nil)))) (pv 1) (fun _ _ => rfl)) (pa_cons (pv 2) pa_nil))))) pss_nil) (pss_cons (ps_if (pt_cmpR (op_eq2 hr.units : OpR _ _ (rEq2 K)) (pv 1) pe_int (nomark _)) (pss_one (ps_ret (pe_tup (pa_cons pe_str (pa_cons (pv 2) (pa_cons (C8.pe_c (k_law_number T) hr (by first | decide | omega) (by rfl) (pa_cons (pv 0) pa_nil)) pa_nil)))))) pss_nil) (pss_cons (ps_if (pt_cmpR (op_eq2 hr.units : OpR _ _ (rEq2 K)) (pv 1) pe_int (nomark _)) (pss_cons (ps_asg (C8.pe_c (k_law_word T) hr (by first | decide | omega) (by rfl) (pa_cons (pv 0) pa_nil)) (pg_name (i := 3) sc_law_atom.nd rfl (Or.inl rfl))) (pss_one (ps_ret (pe_tup (pa_cons pe_str (pa_cons (pv 2) (pa_cons (pe_ix (ix_seq : IxR _ (rIx K)) (pe_lst (pa_cons pe_str (pa_cons pe_str (pa_cons pe_str (pa_cons pe_str (pa_cons (pv 3) (pa_cons (pv 3) (pa_cons (pv 3) pa_nil)))))))) (C8.pe_c (k_law_take T) hr (by first | decide | omega) (by rfl) (pa_cons (pv 0) (pa_cons pe_int pa_nil))) (fun _ _ => rfl)) pa_nil))))))) pss_nil) (pss_cons (ps_asg (pe_ix (ix_seq : IxR _ (rIx K)) (pe_lst (pa_cons pe_str (pa_cons pe_str (pa_cons pe_str (pa_cons pe_str (pa_cons pe_str (pa_cons pe_str pa_nil))))))) (C8.pe_c (k_law_take T) hr (by first | decide | omega) (by rfl) (pa_cons (pv 0) (pa_cons pe_int pa_nil))) (fun _ _ => rfl)) (pg_name (i := 4) sc_law_atom.nd rfl (Or.inl rfl))) (pss_cons (ps_asg (C8.pe_c (k_law_expression T) hr (by first | decide | omega) (by rfl) (pa_cons (pv 0) pa_nil)) (pg_name (i := 5) sc_law_atom.nd rfl (Or.inl rfl))) (pss_one (ps_ret (pe_tup (pa_cons pe_str (pa_cons (pv 2) (pa_cons (pv 4) (pa_cons (pv 5) (pa_cons (C8.pe_c (k_law_expression T) hr (by first | decide | omega) (by rfl) (pa_cons (pv 0) pa_nil)) pa_nil))))))))))))))), ?_⟩
    walk_at "xxZ"
    refine ⟨a, d, _, rfl, hh, by omega, fun kd H1 kd0 kd1 c1 hh1 => ?_⟩
    walk_at "xxZ"
    refine ⟨a, d, rfl, hh1, fun r H2 r0 r1 k2 hh2 => ?_⟩
    obtain ⟨r, rfl⟩ := nat_of r0
    have k2 : Keep a H H2 := c1.keep.trans k2
    clear hh hh1 c1
    walk_at "xxZ"
    refine iteD (fun c => ?_) (fun c => ?_)
    · walk_at "xxZ"
      rename_i p3 H3 n3 s3 e3
      have hk : kd = 0 ∨ kd = 1 ∨ kd = 2 := by omega
      obtain ⟨k, g, hks⟩ : ∃ k : Str, atI [V.str "row", .str "yes", .str "no"] kd = some (.str k) ∧ k ∈ W23.KS := by
        rcases hk with rfl | rfl | rfl
        · exact ⟨_, rfl, by decide +kernel⟩
        · exact ⟨_, rfl, by decide +kernel⟩
        · exact ⟨_, rfl, by decide +kernel⟩
      refine o_ixL (lst_of e3) g ?_
      walk_at "xxZ"
      rename_i p4 H4 n4 s4 e4
      have s34 := s3.trans s4
      exact q _ (.ev k r) H4 ⟨hks, by omega⟩ (.tup e4 (.cons (.str _) (.cons (.int _) .nil))) (k2.trans s34.keep) (hh2.same s34)
    walk_at "xxZ"
    refine iteI (fun c => ?_) (fun c => ?_)
    · walk_at "xxZ"
      refine ⟨a, d, rfl, hh2, fun n H3 n0 n1 k3 hh3 => ?_⟩
      obtain ⟨n, rfl⟩ := nat_of n0
      walk_at "xxZ"
      rename_i p4 H4 n4 s4 e4
      exact q _ (.turn r n) H4 ⟨by omega, by omega⟩ (.tup e4 (.cons (.str _) (.cons (.int _) (.cons (.int _) .nil)))) ((k2.trans k3).trans s4.keep) (hh3.same s4)
    walk_at "xxZ"
    refine iteI (fun c => ?_) (fun c => ?_)
    · walk_at "xxZ"
      refine ⟨a, d, rfl, hh2, fun x H3 hx k3 hh3 => ?_⟩
      walk_at "xxZ"
      rename_i p4 H4 n4 s4 e4
      have nn := hh3.new n4
      refine ⟨a, d, _, rfl, hh3.same s4, by omega, fun r5 H5 r50 r51 c5 hh5 => ?_⟩
      obtain ⟨w5, g, hw⟩ : ∃ w5 : Str, atI [V.str "index", .str "range", .str "turns", .str "check", .str x, .str x, .str x] r5 = some (.str w5) ∧ (nameW w5 = true ∨ w5 = "check") := by
        have : r5 = 0 ∨ r5 = 1 ∨ r5 = 2 ∨ r5 = 3 ∨ r5 = 4 ∨ r5 = 5 ∨ r5 = 6 := by omega
        rcases this with rfl | rfl | rfl | rfl | rfl | rfl | rfl
        · exact ⟨_, rfl, .inl (by decide +kernel)⟩
        · exact ⟨_, rfl, .inl (by decide +kernel)⟩
        · exact ⟨_, rfl, .inl (by decide +kernel)⟩
        · exact ⟨_, rfl, .inr rfl⟩
        · exact ⟨_, rfl, .inl hx⟩
        · exact ⟨_, rfl, .inl hx⟩
        · exact ⟨_, rfl, .inl hx⟩
      refine o_ixL (lst_of (c5.at e4 nn.1.symm)) g ?_
      walk_at "xxZ"
      rename_i p6 H6 n6 s6 e6
      exact q _ (.fault r w5) H6 ⟨by omega, hw⟩ (.tup e6 (.cons (.str _) (.cons (.int _) (.cons (.str _) .nil)))) ((((k2.trans k3).trans s4.keep).trans c5.keep).trans s6.keep) (hh5.same s6)
    walk_at "xxZ"
    rename_i p4 H4 n4 s4 e4
    have nn := hh2.new n4
    refine ⟨a, d, _, rfl, hh2.same s4, by omega, fun r5 H5 r50 r51 c5 hh5 => ?_⟩
    obtain ⟨w5, g, hw⟩ : ∃ w5 : Str, atI [V.str "<", .str "<=", .str ">", .str ">=", .str "==", .str "!="] r5 = some (.str w5) ∧ w5 ∈ SIG := by
      have : r5 = 0 ∨ r5 = 1 ∨ r5 = 2 ∨ r5 = 3 ∨ r5 = 4 ∨ r5 = 5 := by omega
      rcases this with rfl | rfl | rfl | rfl | rfl | rfl
      · exact ⟨_, rfl, by decide +kernel⟩
      · exact ⟨_, rfl, by decide +kernel⟩
      · exact ⟨_, rfl, by decide +kernel⟩
      · exact ⟨_, rfl, by decide +kernel⟩
      · exact ⟨_, rfl, by decide +kernel⟩
      · exact ⟨_, rfl, by decide +kernel⟩
    refine o_ixL (lst_of (c5.at e4 nn.1.symm)) g ?_
    have k5 := (k2.trans s4.keep).trans c5.keep
    walk_at "xxZ"
    refine ⟨a, d, rfl, hh5, fun vl l H6 gl tl6 k6 hh6 => ?_⟩
    walk_at "xxZ"
    refine ⟨a, d, rfl, hh6, fun vr e H7 gr tr7 k7 hh7 => ?_⟩
    walk_at "xxZ"
    rename_i p8 H8 n8 s8 e8
    have tl8 := Tp.tk s8.tk (Tp.tk (hh6.keep_tk k7) tl6)
    exact q _ (.whn r w5 l e) H8 ⟨by omega, hw, gl, gr⟩ (.tup e8 (.cons (.str _) (.cons (.int _) (.cons (.str _) (.cons tl8 (.cons (tr7.tk s8.tk) .nil)))))) (((k5.trans k6).trans k7).trans s8.keep) (hh7.same s8)
end
end K23
-- WIDE
namespace K23
open PySem PySem.Spec PyProof.Rows L2 Wy WN WQ WS WC WE WM W3 W4 W5 W7 W8 W9 W10 W23 WXD

section
variable {P : Program} {w : World} {K : PySem.W.Frag} {mg : Str → Option Value} {base : Heap}
/-- a new list of words -/
def RetWs (ws : List Str) (H : Hp) (Q : VK) : Prop := ∀ p H', Same H H' → H p = none → H' p = some (.lst (ws.map V.str)) → Q (.ref p) H'
theorem abs_str {p : Int} : Str.ofString (toString (if p < 0 then -p else p)) = numS p.natAbs := by
  have e : (if p < 0 then -p else p) = ((p.natAbs : Nat) : Int) := by
    split <;> omega
  rw [e, toStr_nat (by omega), Int.toNat_natCast]
def spSignedWords : Sp := fun vs H Q _ => ∃ p : Int, vs = [.int p] ∧ p.natAbs < 10 ^ 10 ∧ RetWs (wordsE (.num p)) H Q
theorem k_law_signed_words (T : Tx w K mg) : C8.Cal P w K mg base 1 "_law_signed_words" spSignedWords [] := by
  refine cal_of (N := n_law_signed_words) T.d_law_signed_words sc_law_signed_words (fun _ _ F => F.bindsN fun _ _ _ _ _ _ us hl => match us, hl with | [_], _ => rfl) (fun vs H Q E h => ?_) (fun f cdv A outer s H vs Q E hr h => ?_)
  · obtain ⟨p, rfl, _⟩ := h
    rfl
  · obtain ⟨p, rfl, hp, q⟩ := h
    refine ⟨_, (pss_cons (ps_if (pt_cmpR op_lt (pv 0) pe_int (nomark _)) (pss_one (ps_ret (pe_lst (pa_cons pe_str (pa_cons (pe_callTy (WXD.call_strA : CallR _ _ WXD.rStrA) (by rfl) T.z_str (by decide +kernel) (pa_cons (pe_un un_neg (pv 0)) pa_nil)) pa_nil))))) pss_nil) (pss_one (ps_ret (pe_lst (pa_cons (pe_callTy (WXD.call_strA : CallR _ _ WXD.rStrA) (by rfl) T.z_str (by decide +kernel) (pa_cons (pv 0) pa_nil)) pa_nil))))), ?_⟩
    walk_at "xxZ"
    refine iteD (fun e => ?_) (fun e => ?_)
    · have e : p < 0 := e
      rw [show wordsE (.num p) = [("-" : Str), numS (-p).toNat] from if_pos e] at q
      walk_at "xxZ"
      refine c_strI (by omega) ?_
      walk_at "xxZ"
      rename_i p2 H2 n2 s2 e2
      refine q p2 H2 s2 n2 ?_
      rw [e2, toStr_nat (by omega)]
      rfl
    · have e : ¬ p < 0 := e
      rw [show wordsE (.num p) = [numS p.toNat] from if_neg e] at q
      walk_at "xxZ"
      refine c_strI (by omega) ?_
      walk_at "xxZ"
      rename_i p2 H2 n2 s2 e2
      refine q p2 H2 s2 n2 ?_
      rw [e2, toStr_nat (by omega)]
      rfl
def spPlusWords : Sp := fun vs H Q _ => ∃ p : Int, vs = [.int p] ∧ p.natAbs < 10 ^ 10 ∧ RetWs (plusW p) H Q
theorem k_law_plus_words (T : Tx w K mg) : C8.Cal P w K mg base 1 "_law_plus_words" spPlusWords [] := by
  refine cal_of (N := n_law_plus_words) T.d_law_plus_words sc_law_plus_words (fun _ _ F => F.bindsN fun _ _ _ _ _ _ us hl => match us, hl with | [_], _ => rfl) (fun vs H Q E h => ?_) (fun f cdv A outer s H vs Q E hr h => ?_)
  · obtain ⟨p, rfl, _⟩ := h
    rfl
  · obtain ⟨p, rfl, hp, q⟩ := h
    unfold plusW at q
    refine ⟨_, (pss_cons (ps_if (pt_cmpR (op_eq2 hr.units : OpR _ _ (rEq2 K)) (pv 0) pe_int (nomark _)) (pss_one (ps_ret (pe_lst pa_nil))) pss_nil) (pss_one (ps_ret (pe_lst (pa_cons (pe_ix (ix_seq : IxR _ (rIx K)) (pe_lst (pa_cons pe_str (pa_cons pe_str pa_nil))) (pe_callTy call_int2 (by rfl) T.z_int (by decide +kernel) (pa_cons (pe_cmpR op_lt (pv 0) pe_int (nomark _)) pa_nil)) (fun _ _ => rfl)) (pa_cons (pe_callTy (WXD.call_strA : CallR _ _ WXD.rStrA) (by rfl) T.z_str (by decide +kernel) (pa_cons (pe_callB call_abs2 (by rfl) T.z_abs (by decide +kernel) (pa_cons (pv 0) pa_nil)) pa_nil)) pa_nil)))))), ?_⟩
    walk_at "xxZ"
    refine iteI (fun e => ?_) (fun e => ?_)
    · have e : p = 0 := e
      rw [if_pos e] at q
      walk_at "xxZ"
      rename_i p1 H1 n1 s1 e1
      exact q p1 H1 s1 n1 e1
    · have e : p ≠ 0 := e
      rw [if_neg e] at q
      walk_at "xxZ"
      rename_i p1 H1 n1 s1 e1
      have hsg : atI [V.str "+", V.str "-"] (if decide (p < 0) = true then 1 else 0) = some (.str (if 0 < p then "+" else "-")) := by
        by_cases h : p < 0
        · rw [decide_eq_true h, if_pos rfl, if_neg (by omega)]
          rfl
        · rw [decide_eq_false h, if_neg Bool.false_ne_true, if_pos (by omega)]
          rfl
      refine o_ixL (lst_of e1) hsg ?_
      walk_at "xxZ"
      refine c_strI (by split <;> omega) ?_
      walk_at "xxZ"
      rename_i p2 H2 n2 s2 e2
      refine q p2 H2 (s1.trans s2) (s1.free n2) ?_
      rw [e2, abs_str]
      rfl
def spWordsOf : Sp := fun vs H Q _ => ∃ (v : V) (e : Ex), vs = [v] ∧ Tp H v e.d ∧ Good e ∧ RetWs (wordsE e) H Q
theorem plusW_len (p : Int) : (plusW p).length ≤ 2 := by
  unfold plusW
  split
  · exact Nat.zero_le _
  · exact Nat.le_refl _
theorem lz1000 {n : Nat} (h : n ≤ 100000) : n ≤ sizeLine := by
  rw [sizeLine_eq]
  omega
theorem k_law_words_of (T : Tx w K mg) : C8.Cal P w K mg base 2 "_law_words_of" spWordsOf [] := by
  refine cal_of (N := n_law_words_of) T.d_law_words_of sc_law_words_of (fun _ _ F => F.bindsN fun _ _ _ _ _ _ us hl => match us, hl with | [_], _ => rfl) (fun vs H Q E h => ?_) (fun f cdv A outer s H vs Q E hr h => ?_)
  · obtain ⟨v, e, rfl, _⟩ := h
    rfl
  · obtain ⟨v, e, rfl, te, hg, q⟩ := h
    have hl := expr_len hg
    refine ⟨_, (pss_cons (ps_if (pt_cmpR (op_eq2 hr.units : OpR _ _ (rEq2 K)) (pe_ix (ix_seq : IxR _ (rIx K)) (pv 0) pe_int (fun _ _ => rfl)) pe_str (nomark _)) (pss_one (ps_ret (C8.pe_c (k_law_signed_words T) hr (by first | decide | omega) (by rfl) (pa_cons (pe_ix (ix_seq : IxR _ (rIx K)) (pv 0) pe_int (fun _ _ => rfl)) pa_nil)))) pss_nil) (pss_cons (ps_if (pt_cmpR (op_eq2 hr.units : OpR _ _ (rEq2 K)) (pe_ix (ix_seq : IxR _ (rIx K)) (pv 0) pe_int (fun _ _ => rfl)) pe_str (nomark _)) (pss_one (ps_ret (pe_op op_add3 (pe_lst (pa_cons (pe_ix (ix_seq : IxR _ (rIx K)) (pv 0) pe_int (fun _ _ => rfl)) pa_nil)) (C8.pe_c (k_law_plus_words T) hr (by first | decide | omega) (by rfl) (pa_cons (pe_ix (ix_seq : IxR _ (rIx K)) (pv 0) pe_int (fun _ _ => rfl)) pa_nil))))) pss_nil) (pss_cons (ps_asg (pe_ix (ix_seq : IxR _ (rIx K)) (pv 0) pe_int (fun _ _ => rfl)) (pg_name (i := 1) sc_law_words_of.nd rfl (Or.inl rfl))) (pss_cons (ps_asg (pe_lst (pa_cons (pe_ix (ix_seq : IxR _ (rIx K)) (pv 1) pe_int (fun _ _ => rfl)) pa_nil)) (pg_name (i := 2) sc_law_words_of.nd rfl (Or.inl rfl))) (C8.pss_cut (ps_if (pt_cmpR (op_eq2 hr.units : OpR _ _ (rEq2 K)) (pe_ix (ix_seq : IxR _ (rIx K)) (pv 1) pe_int (fun _ _ => rfl)) pe_str (nomark _)) (pss_one (ps_asg (pe_op op_add3 (pv 2) (C8.pe_c (k_law_plus_words T) hr (by first | decide | omega) (by rfl) (pa_cons (pe_ix (ix_seq : IxR _ (rIx K)) (pv 1) pe_int (fun _ _ => rfl)) pa_nil))) (pg_name (i := 2) sc_law_words_of.nd rfl (Or.inl rfl)))) (pss_one (ps_asg (C8.pe_c (k_law_signed_words T) hr (by first | decide | omega) (by rfl) (pa_cons (pe_ix (ix_seq : IxR _ (rIx K)) (pv 1) pe_int (fun _ _ => rfl)) pa_nil)) (pg_name (i := 2) sc_law_words_of.nd rfl (Or.inl rfl))))) (pss_one (ps_ret (pe_op op_add3 (pe_op op_add3 (pe_op op_add3 (pe_lst (pa_cons (pe_ix (ix_seq : IxR _ (rIx K)) (pv 0) pe_int (fun _ _ => rfl)) (pa_cons pe_str pa_nil))) (pv 2)) (pe_lst (pa_cons pe_str pa_nil))) (C8.pe_c (k_law_plus_words T) hr (by first | decide | omega) (by rfl) (pa_cons (pe_ix (ix_seq : IxR _ (rIx K)) (pv 0) pe_int (fun _ _ => rfl)) pa_nil)))))))))), ?_⟩
    cases e with
    | num m =>
      obtain ⟨a, rfl, ea⟩ := ex_num te
      walk_at "xxZ"
      exact ⟨m, rfl, hg, q⟩
    | var x p =>
      obtain ⟨a, rfl, ea⟩ := ex_var te
      have lp := plusW_len p
      walk_at "xxZ"
      rename_i p1 H1 n1 s1 e1
      refine ⟨p, rfl, hg.2, fun p2 H2 s2 n2 e2 => ?_⟩
      refine o_addL (s2 _ _ e1) e2 (lz1000 (by rw [List.length_map]; show 1 + _ ≤ _; omega)) fun p3 H3 n3 s3 e3 => ?_
      exact q p3 H3 ((s1.trans s2).trans s3) ((s1.trans s2).free n3) e3
    | item x i p =>
      obtain ⟨a, u, rfl, ea, ti⟩ := ex_item te
      have hl : ([x, ("[" : Str)] ++ wordsE i ++ [("]" : Str)] ++ plusW p).length ≤ 8 := hl
      rw [List.length_append, List.length_append, List.length_append] at hl
      have hl : 2 + (wordsE i).length + 1 + (plusW p).length ≤ 8 := hl
      have fin : ∀ (b : Addr) (H1 : Hp), Same H H1 → H1 b = some (.lst ((wordsE i).map V.str)) → True := fun _ _ _ _ => trivial
      cases i with
      | num m =>
        obtain ⟨b, rfl, eb⟩ := ex_num ti
        walk_at "xxZ"
        rename_i p1 H1 n1 s1 e1
        refine s_cut (fun σ H' => ∃ c, σ = [some (.ref a), some (.ref b), some (.ref c)] ∧ Same H H' ∧ H' c = some (.lst ((wordsE (.num m)).map V.str))) ?_ (fun σ H2 p2 => ?_)
        · walk_at "xxZ"
          refine ⟨m, rfl, hg.2.1, fun p2 H2 s2 n2 e2 => ?_⟩
          walk_at "xxZ"
          exact ⟨_, rfl, s1.trans s2, e2⟩
        · obtain ⟨c, rfl, s2, e2⟩ := p2
          clear e1 s1 n1
          have ea2 := s2 _ _ ea
          walk_at "xxZ"
          rename_i p3 H3 n3 s3 e3
          refine o_addL e3 (s3 _ _ e2) (lz1000 (by rw [List.length_map]; show 2 + _ ≤ _; omega)) fun p4 H4 n4 s4 e4 => ?_
          walk_at "xxZ"
          rename_i p5 H5 n5 s5 e5
          refine o_addL (s5 _ _ e4) e5 (lz1000 (by rw [List.length_append, List.length_map]; show 2 + _ + 1 ≤ _; omega)) fun p6 H6 n6 s6 e6 => ?_
          walk_at "xxZ"
          refine ⟨p, rfl, hg.2.2, fun p7 H7 s7 n7 e7 => ?_⟩
          refine o_addL (s7 _ _ e6) e7 (lz1000 (by rw [List.length_append, List.length_append, List.length_map, List.length_map]; show 2 + _ + 1 + _ ≤ _; omega)) fun p8 H8 n8 s8 e8 => ?_
          have S7 := s2.trans (s3.trans (s4.trans (s5.trans (s6.trans s7))))
          refine q p8 H8 (S7.trans s8) (S7.free n8) ?_
          rw [e8]
          show some (HO.lst ([V.str x, V.str "["] ++ (wordsE (.num m)).map V.str ++ [V.str "]"] ++ (plusW p).map V.str)) = some (HO.lst (([x, ("[" : Str)] ++ wordsE (.num m) ++ [("]" : Str)] ++ plusW p).map V.str))
          rw [List.map_append, List.map_append, List.map_append]
          rfl
      | var y k =>
        obtain ⟨b, rfl, eb⟩ := ex_var ti
        have lk := plusW_len k
        walk_at "xxZ"
        rename_i p1 H1 n1 s1 e1
        refine s_cut (fun σ H' => ∃ c, σ = [some (.ref a), some (.ref b), some (.ref c)] ∧ Same H H' ∧ H' c = some (.lst ((wordsE (.var y k)).map V.str))) ?_ (fun σ H2 p2 => ?_)
        · walk_at "xxZ"
          refine ⟨k, rfl, hg.2.1.2, fun p2 H2 s2 n2 e2 => ?_⟩
          refine o_addL (s2 _ _ e1) e2 (lz1000 (by rw [List.length_map]; show 1 + _ ≤ _; omega)) fun p3 H3 n3 s3 e3 => ?_
          walk_at "xxZ"
          exact ⟨_, rfl, (s1.trans s2).trans s3, e3⟩
        · obtain ⟨c, rfl, s2, e2⟩ := p2
          clear e1 s1 n1
          have ea2 := s2 _ _ ea
          walk_at "xxZ"
          rename_i p3 H3 n3 s3 e3
          refine o_addL e3 (s3 _ _ e2) (lz1000 (by rw [List.length_map]; show 2 + _ ≤ _; omega)) fun p4 H4 n4 s4 e4 => ?_
          walk_at "xxZ"
          rename_i p5 H5 n5 s5 e5
          refine o_addL (s5 _ _ e4) e5 (lz1000 (by rw [List.length_append, List.length_map]; show 2 + _ + 1 ≤ _; omega)) fun p6 H6 n6 s6 e6 => ?_
          walk_at "xxZ"
          refine ⟨p, rfl, hg.2.2, fun p7 H7 s7 n7 e7 => ?_⟩
          refine o_addL (s7 _ _ e6) e7 (lz1000 (by rw [List.length_append, List.length_append, List.length_map, List.length_map]; show 2 + _ + 1 + _ ≤ _; omega)) fun p8 H8 n8 s8 e8 => ?_
          have S7 := s2.trans (s3.trans (s4.trans (s5.trans (s6.trans s7))))
          refine q p8 H8 (S7.trans s8) (S7.free n8) ?_
          rw [e8]
          show some (HO.lst ([V.str x, V.str "["] ++ (wordsE (.var y k)).map V.str ++ [V.str "]"] ++ (plusW p).map V.str)) = some (HO.lst (([x, ("[" : Str)] ++ wordsE (.var y k) ++ [("]" : Str)] ++ plusW p).map V.str))
          rw [List.map_append, List.map_append, List.map_append]
          rfl
      | item y j k => exact hg.2.1.elim
end
end K23
-- WIDE
namespace K23
open PySem PySem.Spec PyProof.Rows L2 Wy WN WQ WS WC WE WM W3 W4 W5 W7 W8 W9 W10 W23 WXD

section
variable {P : Program} {w : World} {K : PySem.W.Frag} {mg : Str → Option Value} {base : Heap}
def spAtomWords : Sp := fun vs H Q _ => ∃ (v : V) (a : At), vs = [v] ∧ Tp H v a.d ∧ a.ok ∧ RetWs a.ws H Q
theorem k_law_atom_words (T : Tx w K mg) : C8.Cal P w K mg base 3 "_law_atom_words" spAtomWords [] := by
  refine cal_of (N := n_law_atom_words) T.d_law_atom_words sc_law_atom_words (fun _ _ F => F.bindsN fun _ _ _ _ _ _ us hl => match us, hl with | [_], _ => rfl) (fun vs H Q E h => ?_) (fun f cdv A outer s H vs Q E hr h => ?_)
  · obtain ⟨_, _, rfl, _⟩ := h
    rfl
  · obtain ⟨v, a, rfl, ta, ho, q⟩ := h
    refine ⟨_, (pss_cons (ps_if (pt_cmpR (op_ne2 hr.units : OpR _ _ (rNe2 K)) (pe_ix (ix_seq : IxR _ (rIx K)) (pv 0) pe_int (fun _ _ => rfl)) pe_str (nomark _)) (pss_one (ps_ret (pe_lc (own := [("part", 1)]) (g := gName 1) (tt := tYes) (by rfl) sc_law_atom_words.nd (pi_tup (pv 0) : PI _ _ _ (iTup K _)) (blkOk_by (own := [("part", 1)]) (N := n_law_atom_words) (sc := defScope s_law_atom_words) (by decide +kernel)) (fun _ _ _ _ _ => pg_name (i := 1) sc_law_atom_words.nd rfl (Or.inl rfl)) (fun _ _ _ _ _ => pts_nil) (fun _ _ _ _ _ => (pe_callTy (WXD.call_strA : CallR _ _ WXD.rStrA) (by rfl) T.z_str (by decide +kernel) (pa_cons (pv 1) pa_nil)))))) pss_nil) (pss_one (ps_ret (pe_op op_add3 (pe_op op_add3 (pe_op op_add3 (pe_lst (pa_cons pe_str (pa_cons (pe_callTy (WXD.call_strA : CallR _ _ WXD.rStrA) (by rfl) T.z_str (by decide +kernel) (pa_cons (pe_ix (ix_seq : IxR _ (rIx K)) (pv 0) pe_int (fun _ _ => rfl)) pa_nil)) (pa_cons pe_str pa_nil)))) (C8.pe_c (k_law_words_of T) hr (by first | decide | omega) (by rfl) (pa_cons (pe_ix (ix_seq : IxR _ (rIx K)) (pv 0) pe_int (fun _ _ => rfl)) pa_nil))) (pe_lst (pa_cons (pe_ix (ix_seq : IxR _ (rIx K)) (pv 0) pe_int (fun _ _ => rfl)) pa_nil))) (C8.pe_c (k_law_words_of T) hr (by first | decide | omega) (by rfl) (pa_cons (pe_ix (ix_seq : IxR _ (rIx K)) (pv 0) pe_int (fun _ _ => rfl)) pa_nil)))))), ?_⟩
    by_cases hw : ∃ r s l e, a = .whn r s l e
    · obtain ⟨r, s', l, e, rfl⟩ := hw
      obtain ⟨b, x, y, rfl, eb, tx, ty⟩ := at_when ta
      obtain ⟨h1, h2, h3, h4⟩ := ho
      have l3 := expr_len h3
      have l4 := expr_len h4
      walk_at "xxZ"
      refine c_strI (by omega) ?_
      walk_at "xxZ"
      rename_i a1 H1 n1 s1 e1
      have eb1 := s1 _ _ eb
      walk_at "xxZ"
      refine ⟨x, l, rfl, tx.tk s1.tk, h3, fun a2 H2 s2 n2 e2 => ?_⟩
      refine o_addL (s2 _ _ e1) e2 (lz1000 (by rw [List.length_map]; show 3 + _ ≤ _; omega)) fun a3 H3 n3 s3 e3 => ?_
      have eb3 := s3 _ _ (s2 _ _ eb1)
      walk_at "xxZ"
      rename_i a4 H4 n4 s4 e4
      refine o_addL (s4 _ _ e3) e4 (lz1000 (by rw [List.length_append, List.length_map]; show 3 + _ + 1 ≤ _; omega)) fun a5 H5 n5 s5 e5 => ?_
      have eb5 := s5 _ _ (s4 _ _ eb3)
      have S5 := s1.trans (s2.trans (s3.trans (s4.trans s5)))
      walk_at "xxZ"
      refine ⟨y, e, rfl, ty.tk S5.tk, h4, fun a6 H6 s6 n6 e6 => ?_⟩
      refine o_addL (s6 _ _ e5) e6 (lz1000 (by rw [List.length_append, List.length_append, List.length_map, List.length_map]; show 3 + _ + 1 + _ ≤ _; omega)) fun a7 H7 n7 s7 e7 => ?_
      refine q a7 H7 ((S5.trans s6).trans s7) ((S5.trans s6).free n7) ?_
      rw [e7, show Str.ofString (toString ((r : Nat) : Int)) = numS r from toStr_nat (by omega)]
      show some (HO.lst ([V.str "when", .str (numS r), .str ":"] ++ (wordsE l).map V.str ++ [V.str s'] ++ (wordsE e).map V.str)) = some (HO.lst ((("when" : Str) :: numS r :: (":" : Str) :: (wordsE l ++ (s' :: wordsE e))).map V.str))
      simp only [List.map_cons, List.map_append, List.append_assoc, List.cons_append, List.nil_append]
    · obtain ⟨b, us, rfl, eb, hl, hp, etx, h0, hne⟩ := at_parts ta ho fun r s l e z => hw ⟨r, s, l, e, z⟩
      walk_at "xxZ"
      refine o_ixT (tup_of eb) (atI_nat (j := 0) h0) ?_
      walk_at "xxZ"
      refine iteTT (by rw [decide_eq_false fun z => hne (by injection z)]; rfl) ?_
      walk_at "xxZ"
      have hwl := (at_len ho).1
      refine c_acc (xs := us) (.inr ⟨rfl, tup_of eb⟩) (One fun j y _ => a.ws[j]?.map V.str = some y) (fun _ _ _ _ _ h => h) (fun i acc H hi h => small1000' (by rw [h.1]; omega)) One.zero (fun j x H1 acc N M hx s1 o hN hM => ?_) (fun D H1 ys nD s1 e1 o => ?_)
      · have hj := (List.getElem?_eq_some_iff.mp hx).1
        have hp2 : a.ws[j]? = some a.ws[j] := List.getElem?_eq_getElem (by omega)
        refine g_name ⟨rfl, t_yes (iteTT rfl ?_)⟩
        have fin : N (.str a.ws[j]) H1 := hN _ _ (Same.refl _) (o.snoc (fun _ _ h => h) (by rw [hp2]; rfl))
        walk_at "xxZ"
        rcases hp j x _ hx hp2 with rfl | ⟨i, rfl, e, hi⟩
        · exact c_strS fin
        · refine c_strI (by omega) ?_
          rw [show Str.ofString (toString i) = a.ws[j] from e.symm]
          exact fin
      · have ey : ys = a.ws.map V.str := One.eq (by rw [← hl]; exact o) fun j y _ h => h
        subst ey
        exact q D H1 s1 nD e1
def spLText (n : Nat) : Sp := fun vs H Q _ => ∃ (v : V) (e : Ex), vs = [v] ∧ Tp H v e.d ∧ Good e ∧ dep e < n ∧ Q (.str (textE e)) H
theorem ex_of {H : Hp} {v : V} {e : Ex} (h : Tp H v e.d) (hg : Good e) (hn : ∀ m, e ≠ .num m) : ∃ (a : Addr) (us : List V) (k x : Str) (p : Int), v = .ref a ∧ H a = some (.tup us) ∧ us[0]? = some (.str k) ∧ us[1]? = some (.str x) ∧ atI us (-1) = some (.int p) ∧ p.natAbs < 10 ^ 10 ∧ k ≠ "num" ∧ nameW x = true ∧
    (k = "item" ∧ (∃ u i, us[2]? = some u ∧ Tp H u i.d ∧ Plain i ∧ dep e = dep i + 1 ∧ textE e = x ++ ("[" : Str) ++ textE i ++ ("]" : Str) ++ plusS p) ∨ k ≠ "item" ∧ textE e = x ++ plusS p) := by
  cases e with
  | num n => exact absurd rfl (hn n)
  | var x p =>
    obtain ⟨a, rfl, ea⟩ := ex_var h
    exact ⟨a, _, _, x, p, rfl, ea, rfl, rfl, rfl, hg.2, by decide +kernel, hg.1, .inr ⟨by decide +kernel, rfl⟩⟩
  | item x i p =>
    obtain ⟨a, u, rfl, ea, ti⟩ := ex_item h
    exact ⟨a, _, _, x, p, rfl, ea, rfl, rfl, rfl, hg.2.2, by decide +kernel, hg.1, .inl ⟨rfl, u, i, rfl, ti, hg.2.1, rfl, rfl⟩⟩
theorem lzs {n : Nat} (h : n ≤ 1000000) : n ≤ sizeLine := by
  rw [sizeLine_eq]
  omega
theorem k_law_plain_text (T : Tx w K mg) : ∀ n : Nat, C8.Cal P w K mg base (n + 1) "_law_plain_text" (spLText n) []
  | 0 => cal_never (ps := ["expression"]) T.d_law_plain_text (fun _ _ F => F.bindsN fun _ _ _ _ _ _ us hl => match us, hl with | [_], _ => rfl) (fun vs H Q E => by
    rintro ⟨v, e, _, _, _, h, _⟩
    omega)
  | n + 1 => by
    have ih := k_law_plain_text T n
    refine cal_of (N := n_law_plain_text) T.d_law_plain_text sc_law_plain_text (fun _ _ F => F.bindsN fun _ _ _ _ _ _ us hl => match us, hl with | [_], _ => rfl) (fun vs H Q E h => ?_) (fun f cdv A outer s H vs Q E hr h => ?_)
    · obtain ⟨v, e, rfl, _⟩ := h
      rfl
    · obtain ⟨v, e, rfl, te, hg, hd, q⟩ := h
      have hl := good_len hg
      refine ⟨_, (pss_cons (ps_if (pt_cmpR (op_eq2 hr.units : OpR _ _ (rEq2 K)) (pe_ix (ix_seq : IxR _ (rIx K)) (pv 0) pe_int (fun _ _ => rfl)) pe_str (nomark _)) (pss_one (ps_ret (pe_callTy (WXD.call_strA : CallR _ _ WXD.rStrA) (by rfl) T.z_str (by decide +kernel) (pa_cons (pe_ix (ix_seq : IxR _ (rIx K)) (pv 0) pe_int (fun _ _ => rfl)) pa_nil)))) pss_nil) (pss_cons (ps_asg (pe_ix (ix_seq : IxR _ (rIx K)) (pv 0) pe_int (fun _ _ => rfl)) (pg_name (i := 1) sc_law_plain_text.nd rfl (Or.inl rfl))) (C8.pss_cut (ps_if (pt_cmpR (op_eq2 hr.units : OpR _ _ (rEq2 K)) (pe_ix (ix_seq : IxR _ (rIx K)) (pv 0) pe_int (fun _ _ => rfl)) pe_str (nomark _)) (pss_one (ps_asg (pe_op op_add3 (pe_op op_add3 (pe_op op_add3 (pv 1) pe_str) (C8.pe_c ih hr (by first | decide | omega) (by rfl) (pa_cons (pe_ix (ix_seq : IxR _ (rIx K)) (pv 0) pe_int (fun _ _ => rfl)) pa_nil))) pe_str) (pg_name (i := 1) sc_law_plain_text.nd rfl (Or.inl rfl)))) pss_nil) (pss_cons (ps_asg (pe_ix (ix_seq : IxR _ (rIx K)) (pv 0) (pe_un un_neg pe_int) (fun _ _ => rfl)) (pg_name (i := 2) sc_law_plain_text.nd rfl (Or.inl rfl))) (C8.pss_cut (ps_if (pt_cmpR op_gt (pv 2) pe_int (nomark _)) (pss_one (ps_asg (pe_op op_add3 (pe_op op_add3 (pv 1) pe_str) (pe_callTy (WXD.call_strA : CallR _ _ WXD.rStrA) (by rfl) T.z_str (by decide +kernel) (pa_cons (pv 2) pa_nil))) (pg_name (i := 1) sc_law_plain_text.nd rfl (Or.inl rfl)))) pss_nil) (C8.pss_cut (ps_if (pt_cmpR op_lt (pv 2) pe_int (nomark _)) (pss_one (ps_asg (pe_op op_add3 (pe_op op_add3 (pv 1) pe_str) (pe_callTy (WXD.call_strA : CallR _ _ WXD.rStrA) (by rfl) T.z_str (by decide +kernel) (pa_cons (pe_un un_neg (pv 2)) pa_nil))) (pg_name (i := 1) sc_law_plain_text.nd rfl (Or.inl rfl)))) pss_nil) (pss_one (ps_ret (pv 1))))))))), ?_⟩
      by_cases hn : ∃ m, e = .num m
      · obtain ⟨m, rfl⟩ := hn
        obtain ⟨a, rfl, ea⟩ := ex_num te
        have hm : m.natAbs < 10 ^ 10 := hg
        walk_at "xxZ"
        exact c_strI (by omega) q
      · obtain ⟨a, us, k, x, p, rfl, ea, u0, u1, ul, hp, kn, hx, hk⟩ := ex_of te hg fun m z => hn ⟨m, z⟩
        have lx := (name_parts hx).2.1
        have lp := plusS_len hp
        walk_at "xxZ"
        refine o_ixT (tup_of ea) (atI_nat (j := 0) u0) ?_
        walk_at "xxZ"
        refine iteFF (decide_eq_false fun z => kn (by injection z)) ?_
        walk_at "xxZ"
        refine o_ixT (tup_of ea) (atI_nat (j := 1) u1) ?_
        walk_at "xxZ"
        refine s_cut (fun σ H' => ∃ t : Str, σ = [some (.ref a), some (.str t), none] ∧ H' = H ∧ t ++ plusS p = textE e ∧ t.length ≤ 60) ?_ (fun σ H2 p2 => ?_)
        · walk_at "xxZ"
          refine o_ixT (tup_of ea) (atI_nat (j := 0) u0) ?_
          walk_at "xxZ"
          rcases hk with ⟨rfl, u, i, u2, ti, hi, hd2, et⟩ | ⟨hk, et⟩
          · have li := plain_len hi
            refine iteTT (decide_eq_true rfl) ?_
            walk_at "xxZ"
            refine o_addS (lzs (by show _ + 1 ≤ _; omega)) ?_
            walk_at "xxZ"
            refine o_ixT (tup_of ea) (atI_nat (j := 2) u2) ?_
            walk_at "xxZ"
            refine ⟨u, i, rfl, ti, hi.good, by omega, ?_⟩
            refine o_addS (lzs (by rw [app_len]; show _ + 1 + _ ≤ _; omega)) ?_
            walk_at "xxZ"
            refine o_addS (lzs (by rw [app_len, app_len]; show _ + 1 + _ + 1 ≤ _; omega)) ?_
            walk_at "xxZ"
            refine ⟨_, rfl, rfl, et.symm, ?_⟩
            rw [app_len, app_len, app_len]
            show _ + 1 + _ + 1 ≤ _
            omega
          · refine iteFF (decide_eq_false fun z => hk (by injection z)) ?_
            walk_at "xxZ"
            exact ⟨x, rfl, rfl, et.symm, by omega⟩
        · obtain ⟨t, rfl, rfl, et, lt⟩ := p2
          walk_at "xxZ"
          refine o_ixT (tup_of ea) ul ?_
          walk_at "xxZ"
          have l3 : (" + " : Str).length = 3 := by decide +kernel
          have l4 : (" - " : Str).length = 3 := by decide +kernel
          rcases Int.lt_trichotomy p 0 with h0 | h0 | h0
          · have e2 := plusS_neg h0
            have e3 : (" - " : Str) ++ Str.ofString (toString (-p)) = plusS p := by
              rw [← e2]
              refine str_ext ?_
              rw [app_tl, app_tl, app_tl]
              rfl
            refine s_cut (fun σ H' => H' = H2 ∧ σ = [some (.ref a), some (.str t), some (.int p)]) ?_ (fun σ H3 p3 => ?_)
            · walk_at "xxZ"
              refine iteFF (decide_eq_false (by omega)) ?_
              walk_at "xxZ"
              exact ⟨rfl, rfl⟩
            obtain ⟨rfl, rfl⟩ := p3
            refine s_cut (fun σ H' => H' = H3 ∧ σ = [some (.ref a), some (.str (textE e)), some (.int p)]) ?_ (fun σ H4 p4 => ?_)
            · walk_at "xxZ"
              refine iteTT (decide_eq_true h0) ?_
              walk_at "xxZ"
              refine o_addS (lzs (by rw [l4]; omega)) ?_
              walk_at "xxZ"
              refine c_strI (by omega) ?_
              have e4 : t ++ (" - " : Str) ++ Str.ofString (toString (-p)) = textE e := by
                rw [← et, ← e3]
                refine str_ext ?_
                rw [app_tl, app_tl, app_tl, app_tl, List.append_assoc]
              refine o_addS (lzs (by rw [← app_len]; have : (t ++ (" - " : Str) ++ Str.ofString (toString (-p))).length ≤ 60 := by rw [e4]; exact hl
                                     omega)) ?_
              walk_at "xxZ"
              exact ⟨rfl, by rw [← e4]; rfl⟩
            obtain ⟨rfl, rfl⟩ := p4
            walk_at "xxZ"
            exact q
          · subst h0
            have et : t = textE e := by
              rw [← et]
              refine str_ext ?_
              rw [app_tl]
              exact (List.append_nil _).symm
            subst et
            refine s_cut (fun σ H' => H' = H2 ∧ σ = [some (.ref a), some (.str (textE e)), some (.int 0)]) ?_ (fun σ H3 p3 => ?_)
            · walk_at "xxZ"
              exact ⟨rfl, rfl⟩
            obtain ⟨rfl, rfl⟩ := p3
            refine s_cut (fun σ H' => H' = H3 ∧ σ = [some (.ref a), some (.str (textE e)), some (.int 0)]) ?_ (fun σ H4 p4 => ?_)
            · walk_at "xxZ"
              exact ⟨rfl, rfl⟩
            obtain ⟨rfl, rfl⟩ := p4
            walk_at "xxZ"
            exact q
          · have e2 := plusS_pos h0
            have e3 : (" + " : Str) ++ Str.ofString (toString p) = plusS p := by
              rw [← e2]
              refine str_ext ?_
              rw [app_tl, app_tl, app_tl]
              rfl
            refine s_cut (fun σ H' => H' = H2 ∧ σ = [some (.ref a), some (.str (textE e)), some (.int p)]) ?_ (fun σ H4 p4 => ?_)
            · walk_at "xxZ"
              refine iteTT (decide_eq_true h0) ?_
              walk_at "xxZ"
              refine o_addS (lzs (by rw [l3]; omega)) ?_
              walk_at "xxZ"
              refine c_strI (by omega) ?_
              have e4 : t ++ (" + " : Str) ++ Str.ofString (toString p) = textE e := by
                rw [← et, ← e3]
                refine str_ext ?_
                rw [app_tl, app_tl, app_tl, app_tl, List.append_assoc]
              refine o_addS (lzs (by rw [← app_len]; have : (t ++ (" + " : Str) ++ Str.ofString (toString p)).length ≤ 60 := by rw [e4]; exact hl
                                     omega)) ?_
              walk_at "xxZ"
              exact ⟨rfl, by rw [← e4]; rfl⟩
            obtain ⟨rfl, rfl⟩ := p4
            refine s_cut (fun σ H' => H' = H4 ∧ σ = [some (.ref a), some (.str (textE e)), some (.int p)]) ?_ (fun σ H3 p3 => ?_)
            · walk_at "xxZ"
              refine iteFF (decide_eq_false (by omega)) ?_
              walk_at "xxZ"
              exact ⟨rfl, rfl⟩
            obtain ⟨rfl, rfl⟩ := p3
            walk_at "xxZ"
            exact q
end
end K23
-- WIDE
-- REC _law_plain_text 2
namespace K23
open PySem PySem.Spec PyProof.Rows L2 Wy WN WQ WS WC WE WM W3 W4 W5 W7 W8 W9 W10 W23 WXD

theorem plWs_snoc {a : At} : ∀ {ps : List At}, ps ≠ [] → plWs (ps ++ [a]) = plWs ps ++ TH :: a.ws
  | [], h => absurd rfl h
  | [b], _ => rfl
  | b :: c :: r, _ => by
    have ih := plWs_snoc (a := a) (ps := c :: r) (List.cons_ne_nil _ _)
    show b.ws ++ TH :: plWs (c :: r ++ [a]) = (b.ws ++ TH :: plWs (c :: r)) ++ TH :: a.ws
    rw [ih, List.append_assoc]
    rfl
theorem at_take {a : At} (h : ∀ r s l e, a ≠ .whn r s l e) : a.ws.take 3 = a.ws ∧ a.tx = Txt.join WR.SP a.ws := by
  cases a with
  | ev k r => exact ⟨rfl, rfl⟩
  | turn r n => exact ⟨rfl, rfl⟩
  | fault r w => exact ⟨rfl, rfl⟩
  | whn r s l e => exact absurd rfl (h r s l e)
section
variable {P : Program} {w : World} {K : PySem.W.Frag} {mg : Str → Option Value} {base : Heap}
def spLPlace : Sp := fun vs H Q _ => ∃ (v : V) (ps : List At), vs = [v] ∧ Tp H v (.tuple (ps.map At.d)) ∧ (∀ a ∈ ps, a.ok) ∧ ps.length ≤ 3 ∧ ∀ H', Same H H' → Q (.str (Txt.join JT (ps.map At.tx))) H'
theorem k_law_text (T : Tx w K mg) : C8.Cal P w K mg base 4 "_law_text" spLPlace [] := by
  refine cal_of (N := n_law_text) T.d_law_text sc_law_text (fun _ _ F => F.bindsN fun _ _ _ _ _ _ us hl => match us, hl with | [_], _ => rfl) (fun vs H Q E h => ?_) (fun f cdv A outer s H vs Q E hr h => ?_)
  · obtain ⟨_, _, rfl, _⟩ := h
    rfl
  · obtain ⟨v, ps, rfl, tv, ho, hl, q⟩ := h
    obtain ⟨b, us, rfl, eb, t⟩ := tpL tv
    refine ⟨_, (pss_cons (ps_asg (pe_lst pa_nil) (pg_name (i := 1) sc_law_text.nd rfl (Or.inl rfl))) (pss_cons (ps_for PassesOwn.never rfl (pi_tup (pv 0) : PI _ _ _ (iTup K _)) (pg_name (i := 2) sc_law_text.nd rfl (Or.inl rfl)) (pss_cons (ps_asg (pe_join2 pe_str (pe_lc (own := [("part", 4)]) (g := gName 4) (tt := tYes) (by rfl) sc_law_text.nd (pi_tup (pe_slice (sl_tupA : SlR _ (rSlA K)) (pv 2) po_none (po_some pe_int)) : PI _ _ _ (iTup K _)) (blkOk_by (own := [("part", 4)]) (N := n_law_text) (sc := defScope s_law_text) (by decide +kernel)) (fun _ _ _ _ _ => pg_name (i := 4) sc_law_text.nd rfl (Or.inl rfl)) (fun _ _ _ _ _ => pts_nil) (fun _ _ _ _ _ => (pe_callTy (WXD.call_strA : CallR _ _ WXD.rStrA) (by rfl) T.z_str (by decide +kernel) (pa_cons (pv 4) pa_nil)))) : PE _ _ (tM1 (rJoin K) _ _)) (pg_name (i := 3) sc_law_text.nd rfl (Or.inl rfl))) (C8.pss_cut (ps_if (pt_cmpR (op_eq2 hr.units : OpR _ _ (rEq2 K)) (pe_ix (ix_seq : IxR _ (rIx K)) (pv 2) pe_int (fun _ _ => rfl)) pe_str (nomark _)) (pss_cons (ps_asg (pe_op op_add3 (pe_op op_add3 (pe_op op_add3 (pe_op op_add3 (pe_op op_add3 pe_str (pe_callTy (WXD.call_strA : CallR _ _ WXD.rStrA) (by rfl) T.z_str (by decide +kernel) (pa_cons (pe_ix (ix_seq : IxR _ (rIx K)) (pv 2) pe_int (fun _ _ => rfl)) pa_nil))) pe_str) (C8.pe_c (k_law_plain_text T 2) hr (by first | decide | omega) (by rfl) (pa_cons (pe_ix (ix_seq : IxR _ (rIx K)) (pv 2) pe_int (fun _ _ => rfl)) pa_nil))) pe_str) (pe_ix (ix_seq : IxR _ (rIx K)) (pv 2) pe_int (fun _ _ => rfl))) (pg_name (i := 3) sc_law_text.nd rfl (Or.inl rfl))) (pss_one (ps_asg (pe_op op_add3 (pe_op op_add3 (pv 3) pe_str) (C8.pe_c (k_law_plain_text T 2) hr (by first | decide | omega) (by rfl) (pa_cons (pe_ix (ix_seq : IxR _ (rIx K)) (pv 2) pe_int (fun _ _ => rfl)) pa_nil))) (pg_name (i := 3) sc_law_text.nd rfl (Or.inl rfl))))) pss_nil) (pss_one (ps_expr (pe_bm PySem.F.plainAttrs_list PySem.F.slot_list_append PySem.F.type_list_append mt_append (pv 1) (pa_cons (pv 3) pa_nil) : PE _ _ (tBM K _ _ _ _))))))) (pss_one (ps_ret (pe_join2 pe_str (pv 1) : PE _ _ (tM1 (rJoin K) _ _)))))), ?_⟩
    have lu := t.length
    rw [List.length_map] at lu
    walk_at "xxZ"
    rename_i l H1 n1 s1 e1
    refine f_tup (xs := us) (fun i σ H' => ∃ (x y : Option V), σ = [some (.ref b), some (.ref l), x, y, none] ∧ Same H H' ∧ H' l = some (.lst (((ps.take i).map At.tx).map V.str))) ⟨none, none, rfl, s1, e1⟩ (fun i σ H' hi p => ?_) (fun i u σ H2 hu p => ?_) (fun σ H2 p => ?_)
    · obtain ⟨_, _, _, s, _⟩ := p
      exact seqT s (tup_of eb)
    · obtain ⟨x, y, rfl, s2, e2⟩ := p
      have hi := (List.getElem?_eq_some_iff.mp hu).1
      have hpi : i < ps.length := by omega
      have ha : ps[i]? = some ps[i] := List.getElem?_eq_getElem hpi
      have hm : ps[i] ∈ ps := List.getElem_mem hpi
      have ta : Tp H u (ps[i]).d := by
        have h2 : (ps.map At.d)[i]? = some (ps[i]).d := by rw [List.getElem?_map, ha]; rfl
        obtain ⟨d, e, t2⟩ := tpGet t hu
        rw [ha] at e
        cases e
        exact t2
      have etake : ps.take (i + 1) = ps.take i ++ [ps[i]] := by rw [List.take_add_one, ha]; rfl
      have hoi := ho _ hm
      generalize ps[i] = a at ta etake hoi
      have ltx := tx_len hoi
      have llen : ((ps.take i).map At.tx).length ≤ 3 := by
        rw [List.length_map]
        exact Nat.le_trans (List.length_take_le' ..) hl
      have step : ∀ H3 H4, Same H2 H3 → Chg l H3 H4 → H4 l = some (.lst (((ps.take i).map At.tx).map V.str ++ [.str a.tx])) → Same H H4 ∧ H4 l = some (.lst (((ps.take (i + 1)).map At.tx).map V.str)) := fun H3 H4 s3 c4 e4 => ⟨fun z o e => c4.at (s3 _ _ (s2 _ _ e)) (fun hz => by rw [hz, n1] at e; cases e), by rw [e4, etake, List.map_append, List.map_append]; rfl⟩
      by_cases hw : ∃ r s l e, a = .whn r s l e
      · obtain ⟨r, s', lx, ex, rfl⟩ := hw
        obtain ⟨c, x1, y1, rfl, ec, tx1, ty1⟩ := at_when ta
        obtain ⟨h1, h2, h3, h4⟩ := hoi
        have ec2 := s2 _ _ ec
        have lr := (numS_len h1).2
        have gl := good_len h3
        have gr := good_len h4
        have ls : s'.length ≤ 3 := by
          have key : ∀ s ∈ SIG, s.length ≤ 3 := by decide +kernel
          exact key _ h2
        walk_at "xxZ"
        refine l_pre (n := 3) ec2 fun d H3 s3 e3 => ?_
        have e3 : H3 d = some (.tup [.str "when", .int (r : Int), .str s']) := e3
        walk_at "xxZ"
        refine c_acc (xs := [.str "when", .int (r : Int), .str s']) (.inr ⟨rfl, tup_of e3⟩) (One fun j y _ => (["when", numS r, s'] : List Str)[j]?.map V.str = some y) (fun _ _ _ _ _ h => h) (fun i acc H hi h => small1000' (by rw [h.1]; have : i ≤ 3 := hi; omega)) One.zero (fun j x H4 acc N M hx s4 o hN hM => ?_) (fun D H4 ys nD s4 e4 o => ?_)
        · refine g_name ⟨rfl, t_yes (iteTT rfl ?_)⟩
          have hj : j < 3 := (List.getElem?_eq_some_iff.mp hx).1
          have hj : j = 0 ∨ j = 1 ∨ j = 2 := by omega
          walk_at "xxZ"
          rcases hj with rfl | rfl | rfl
          · cases hx
            exact c_strS (hN _ _ (Same.refl _) (o.snoc (fun _ _ h => h) rfl))
          · cases hx
            refine c_strI (by omega) ?_
            rw [show Str.ofString (toString ((r : Nat) : Int)) = numS r from toStr_nat (by omega)]
            exact hN _ _ (Same.refl _) (o.snoc (fun _ _ h => h) rfl)
          · cases hx
            exact c_strS (hN _ _ (Same.refl _) (o.snoc (fun _ _ h => h) rfl))
        have ey : ys = [("when" : Str), numS r, s'].map V.str := One.eq (by exact o) fun j y _ h => h
        subst ey
        refine m_join (lst_of e4) ?_ ?_
        · have l1 : ("when" : Str).length = 4 := by decide +kernel
          have l2 : (Str.ofString " ").length = 1 := by decide +kernel
          show ("when" : Str).length + ((numS r).length + (s'.length + 0)) + 3 * (Str.ofString " ").length ≤ _
          omega
        generalize hz : Txt.join (Str.ofString " ") [("when" : Str), numS r, s'] = z0
        have S4 := s3.trans s4
        have ec4 := S4 _ _ ec2
        have e4l := S4 _ _ e2
        clear e3 e4 o
        walk_at "xxZ"
        refine s_cut (fun σ H' => σ = [some (.ref b), some (.ref l), some (.ref c), some (.str (At.whn r s' lx ex).tx), none] ∧ H' = H4) ?_ (fun σ H5 p5 => ?_)
        · have l5 : (Str.ofString "when ").length = 5 := by decide +kernel
          have l2 : (Str.ofString ": ").length = 2 := by decide +kernel
          have l1 : (Str.ofString " ").length = 1 := by decide +kernel
          have er : Str.ofString (toString ((r : Nat) : Int)) = numS r := toStr_nat (by omega)
          walk_at "xxZ"
          refine c_strI (by omega) ?_
          rw [er]
          refine o_addS (lzs (by rw [l5]; omega)) ?_
          walk_at "xxZ"
          refine o_addS (lzs (by rw [app_len, l5, l2]; omega)) ?_
          walk_at "xxZ"
          refine ⟨x1, lx, rfl, tx1.tk (s2.trans S4).tk, h3, by have := good_dep h3; omega, ?_⟩
          refine o_addS (lzs (by rw [app_len, app_len, l5, l2]; omega)) ?_
          walk_at "xxZ"
          refine o_addS (lzs (by rw [app_len, app_len, app_len, l5, l2, l1]; omega)) ?_
          walk_at "xxZ"
          refine o_addS (lzs (by rw [app_len, app_len, app_len, app_len, l5, l2, l1]; omega)) ?_
          walk_at "xxZ"
          refine o_addS (lzs (by rw [app_len, app_len, app_len, app_len, app_len, l5, l2, l1]; omega)) ?_
          walk_at "xxZ"
          refine ⟨y1, ex, rfl, ty1.tk (s2.trans S4).tk, h4, by have := good_dep h4; omega, ?_⟩
          refine o_addS (lzs (by rw [app_len, app_len, app_len, app_len, app_len, app_len, l5, l2, l1]; omega)) ?_
          walk_at "xxZ"
          refine ⟨?_, rfl⟩
          have eo : Str.ofString "when " ++ numS r ++ Str.ofString ": " ++ textE lx ++ Str.ofString " " ++ s' ++ Str.ofString " " ++ textE ex = (At.whn r s' lx ex).tx := by
            refine str_ext ?_
            show tl _ = tl (("when " : Str) ++ numS r ++ (": " : Str) ++ textC (.cmp s' lx ex))
            rw [textC]
            simp only [tl_app, List.append_assoc]
          rw [← eo]
          rfl
        obtain ⟨rfl, rfl⟩ := p5
        walk_at "xxZ"
        refine m_ty (lst_of e4l) ?_
        walk_at "xxZ"
        refine m_app e4l (small1000' (by rw [List.length_map]; omega)) fun H6 c6 e6 => ?_
        walk_at "xxZ"
        obtain ⟨k1, k2⟩ := step _ _ S4 c6 e6
        exact ⟨_, _, rfl, k1, k2⟩
      · obtain ⟨c, vs, rfl, ec, hlv, hp, etx, h0, hne⟩ := at_parts ta hoi fun r s l e z => hw ⟨r, s, l, e, z⟩
        have ec2 := s2 _ _ ec
        have h3 := (at_take fun r s l e z => hw ⟨r, s, l, e, z⟩).1
        have hwl : a.ws.length ≤ 3 := by rw [← h3]; exact List.length_take_le ..
        have etk : vs.take 3 = vs := List.take_of_length_le (by omega)
        walk_at "xxZ"
        refine l_pre (n := 3) ec2 fun d H3 s3 e3 => ?_
        rw [etk] at e3
        walk_at "xxZ"
        refine c_acc (xs := vs) (.inr ⟨rfl, tup_of e3⟩) (One fun j y _ => a.ws[j]?.map V.str = some y) (fun _ _ _ _ _ h => h) (fun i acc H hi h => small1000' (by rw [h.1]; omega)) One.zero (fun j x H4 acc N M hx s4 o hN hM => ?_) (fun D H4 ys nD s4 e4 o => ?_)
        · have hj := (List.getElem?_eq_some_iff.mp hx).1
          have hp2 : a.ws[j]? = some a.ws[j] := List.getElem?_eq_getElem (by omega)
          refine g_name ⟨rfl, t_yes (iteTT rfl ?_)⟩
          have fin : N (.str a.ws[j]) H4 := hN _ _ (Same.refl _) (o.snoc (fun _ _ h => h) (by rw [hp2]; rfl))
          walk_at "xxZ"
          rcases hp j x _ hx hp2 with rfl | ⟨i, rfl, e, hi⟩
          · exact c_strS fin
          · refine c_strI (by omega) ?_
            rw [show Str.ofString (toString i) = a.ws[j] from e.symm]
            exact fin
        have ey : ys = a.ws.map V.str := One.eq (by rw [← hlv]; exact o) fun j y _ h => h
        subst ey
        refine m_join (lst_of e4) ?_ ?_
        · have h1 : (a.ws.map (·.length)).sum ≤ a.ws.length * 14 := sum_le (ws_short hoi)
          have e : (Str.ofString " ").length = 1 := rfl
          rw [e]
          omega
        rw [show Txt.join (Str.ofString " ") a.ws = a.tx from etx.symm]
        have S4 := s3.trans s4
        have ec4 := S4 _ _ ec2
        have e4l := S4 _ _ e2
        clear e3 e4 o
        walk_at "xxZ"
        refine s_cut (fun σ H' => σ = [some (.ref b), some (.ref l), some (.ref c), some (.str a.tx), none] ∧ H' = H4) ?_ (fun σ H5 p5 => ?_)
        · walk_at "xxZ"
          refine o_ixT (tup_of ec4) (atI_nat (j := 0) h0) ?_
          walk_at "xxZ"
          refine iteFF (decide_eq_false fun z => hne (by injection z)) ?_
          walk_at "xxZ"
          exact ⟨rfl, rfl⟩
        obtain ⟨rfl, rfl⟩ := p5
        walk_at "xxZ"
        refine m_ty (lst_of e4l) ?_
        walk_at "xxZ"
        refine m_app e4l (small1000' (by rw [List.length_map]; omega)) fun H6 c6 e6 => ?_
        walk_at "xxZ"
        obtain ⟨k1, k2⟩ := step _ _ S4 c6 e6
        exact ⟨_, _, rfl, k1, k2⟩
    · obtain ⟨x, y, rfl, s2, e2⟩ := p
      rw [lu, List.take_length] at e2
      walk_at "xxZ"
      refine m_join (lst_of e2) ?_ (q H2 s2)
      have h1 : ((ps.map At.tx).map (·.length)).sum ≤ (ps.map At.tx).length * 110000 := sum_le fun p hp => by
        obtain ⟨a, ha, rfl⟩ := List.mem_map.mp hp
        exact tx_len (ho a ha)
      have e : (Str.ofString " then ").length = 6 := by decide +kernel
      rw [e]
      rw [List.length_map] at h1 ⊢
      omega
end
end K23
-- WIDE
-- CUTIF _law_spaced := need = last.isalpha() and word.isalpha() or (last.isdigit() and word.isdigit())
namespace K23
open PySem PySem.Spec PyProof.Rows L2 Wy WN WQ WS WC WE WM W3 W4 W5 W7 W8 W9 W10 W23 WXD

theorem plWs_len {ps : List At} (h : ∀ a ∈ ps, a.ok) : (plWs ps).length ≤ 21 * ps.length := (place_nw h).len
section
variable {P : Program} {w : World} {K : PySem.W.Frag} {mg : Str → Option Value} {base : Heap}
def spPlaceWords : Sp := fun vs H Q _ => ∃ (v : V) (ps : List At), vs = [v] ∧ Tp H v (.tuple (ps.map At.d)) ∧ (∀ a ∈ ps, a.ok) ∧ ps.length ≤ 3 ∧ RetWs (plWs ps) H Q
theorem k_law_place_words (T : Tx w K mg) : C8.Cal P w K mg base 4 "_law_place_words" spPlaceWords [] := by
  refine cal_of (N := n_law_place_words) T.d_law_place_words sc_law_place_words (fun _ _ F => F.bindsN fun _ _ _ _ _ _ us hl => match us, hl with | [_], _ => rfl) (fun vs H Q E h => ?_) (fun f cdv A outer s H vs Q E hr h => ?_)
  · obtain ⟨_, _, rfl, _⟩ := h
    rfl
  · obtain ⟨v, ps, rfl, tv, ho, hl, q⟩ := h
    obtain ⟨b, us, rfl, eb, t⟩ := tpL tv
    refine ⟨_, (pss_cons (ps_asg (pe_lst pa_nil) (pg_name (i := 1) sc_law_place_words.nd rfl (Or.inl rfl))) (pss_cons (ps_for PassesOwn.never rfl (pi_tup (pv 0) : PI _ _ _ (iTup K _)) (pg_name (i := 2) sc_law_place_words.nd rfl (Or.inl rfl)) (C8.pss_cut (ps_if (pt_cmpR op_gt (pe_callB (call_len2 : CallR _ _ (rLn K)) (by rfl) T.z_len (by decide +kernel) (pa_cons (pv 1) pa_nil)) pe_int (nomark _)) (pss_one (ps_expr (pe_bm PySem.F.plainAttrs_list PySem.F.slot_list_append PySem.F.type_list_append mt_append (pv 1) (pa_cons pe_str pa_nil) : PE _ _ (tBM K _ _ _ _)))) pss_nil) (pss_one (ps_asg (pe_op op_add3 (pv 1) (C8.pe_c (k_law_atom_words T) hr (by first | decide | omega) (by rfl) (pa_cons (pv 2) pa_nil))) (pg_name (i := 1) sc_law_place_words.nd rfl (Or.inl rfl)))))) (pss_one (ps_ret (pv 1))))), ?_⟩
    have lu := t.length
    rw [List.length_map] at lu
    walk_at "xxZ"
    rename_i l H1 n1 s1 e1
    refine f_tup (xs := us) (fun i σ H' => ∃ (x : Option V) (l : Addr), σ = [some (.ref b), some (.ref l), x] ∧ Same H H' ∧ H l = none ∧ H' l = some (.lst ((plWs (ps.take i)).map V.str))) ⟨none, l, rfl, s1, n1, e1⟩ (fun i σ H' hi p => ?_) (fun i u σ H2 hu p => ?_) (fun σ H2 p => ?_)
    · obtain ⟨_, _, _, s, _⟩ := p
      exact seqT s (tup_of eb)
    · clear e1 s1 n1 l
      obtain ⟨x, l, rfl, s2, nl, e2⟩ := p
      have hi := (List.getElem?_eq_some_iff.mp hu).1
      have hpi : i < ps.length := by omega
      have ha : ps[i]? = some ps[i] := List.getElem?_eq_getElem hpi
      have hm : ps[i] ∈ ps := List.getElem_mem hpi
      have ta : Tp H u (ps[i]).d := by
        obtain ⟨d, e, t2⟩ := tpGet t hu
        rw [ha] at e
        cases e
        exact t2
      have etake : ps.take (i + 1) = ps.take i ++ [ps[i]] := by rw [List.take_add_one, ha]; rfl
      have hoi := ho _ hm
      generalize ps[i] = a at ta etake hoi
      have l0 := plWs_len (ps := ps.take i) fun a ha => ho a (List.mem_of_mem_take ha)
      have l1 : (ps.take i).length ≤ 3 := Nat.le_trans (List.length_take_le' ..) hl
      have l2 := (at_len hoi).1
      have l3 : (ps.take i).length = i := by rw [List.length_take]; omega
      generalize hqs : ps.take i = qs at e2 etake l0 l1 l3
      walk_at "xxZ"
      refine s_cut (fun σ H' => σ = [some (.ref b), some (.ref l), some (u)] ∧ Same H H' ∧ H' l = some (.lst (((if qs = [] then [] else plWs qs ++ [TH]) : List Str).map V.str))) ?_ (fun σ H3 p3 => ?_)
      · walk_at "xxZ"
        refine b_lenL (lst_of e2) ?_
        rw [List.length_map]
        walk_at "xxZ"
        refine iteD (fun c => ?_) (fun c => ?_)
        · have c : (0 : Int) < ((plWs qs).length : Int) := c
          have hq : qs ≠ [] := fun z => by
            rw [z] at c
            exact absurd c (by decide)
          walk_at "xxZ"
          refine m_ty (lst_of e2) ?_
          walk_at "xxZ"
          refine m_app e2 (small1000' (by rw [List.length_map]; omega)) fun H3 c3 e3 => ?_
          walk_at "xxZ"
          refine ⟨rfl, fun z o e => c3.at (s2 _ _ e) (fun hz => by rw [hz, nl] at e; cases e), ?_⟩
          rw [if_neg hq, e3, List.map_append]
          rfl
        · have c : ¬ (0 : Int) < ((plWs qs).length : Int) := c
          have hq : qs = [] := by
            cases qs with
            | nil => rfl
            | cons x r =>
              exfalso
              have : (plWs (x :: r)).length = 0 := by omega
              exact plWs_ne (List.length_eq_zero_iff.mp this)
          walk_at "xxZ"
          refine ⟨rfl, s2, ?_⟩
          rw [if_pos hq, e2, hq]
          rfl
      · obtain ⟨rfl, s3, e3⟩ := p3
        walk_at "xxZ"
        refine ⟨u, a, rfl, ta.tk s3.tk, hoi, fun c H4 s4 n4 e4 => ?_⟩
        refine o_addL (s4 _ _ e3) e4 (lz1000 (by
          rw [List.length_map, List.length_map]
          split
          · show 0 + _ ≤ _
            omega
          · rw [List.length_append]
            show _ + 1 + _ ≤ _
            omega)) fun d H5 n5 s5 e5 => ?_
        walk_at "xxZ"
        have S4 := s3.trans s4
        refine ⟨_, d, rfl, S4.trans s5, S4.free n5, ?_⟩
        rw [e5, etake, ← List.map_append]
        by_cases hq : qs = []
        · rw [if_pos hq, hq]
          rfl
        · rw [if_neg hq, plWs_snoc hq, List.append_assoc]
          rfl
    · obtain ⟨x, l, rfl, s2, nl, e2⟩ := p
      rw [lu, List.take_length] at e2
      walk_at "xxZ"
      exact q l H2 s2 nl e2
end
/-! ### words with spaces between -/
theorem glueS_snoc (g : List (Str × Nat)) (x : Str) (n : Nat) : glueS (g ++ [(x, n)]) = glueS g ++ (tl x ++ List.replicate n 32) := by
  induction g with
  | nil =>
    show tl x ++ (List.replicate n 32 ++ []) = _
    rw [List.append_nil]
    rfl
  | cons p r ih =>
    show tl p.1 ++ (List.replicate p.2 32 ++ glueS (r ++ [(x, n)])) = tl p.1 ++ (List.replicate p.2 32 ++ glueS r) ++ _
    rw [ih]
    simp only [List.append_assoc]
theorem gaps_snoc : ∀ {g : List (Str × Nat)} {x y : Str} {n m : Nat}, Gaps (g ++ [(x, 0)]) → (need x y = true → 0 < n) → Gaps (g ++ [(x, n)] ++ [(y, m)])
  | [], x, y, n, m, _, h => ⟨h, trivial⟩
  | [(u, k)], x, y, n, m, g, h => ⟨g.1, h, trivial⟩
  | (u, k) :: (v, j) :: r, x, y, n, m, g, h => ⟨g.1, gaps_snoc (g := (v, j) :: r) g.2 h⟩
theorem gaps_last : ∀ {g : List (Str × Nat)} {x : Str} {n m : Nat}, Gaps (g ++ [(x, n)]) → Gaps (g ++ [(x, m)])
  | [], x, n, m, _ => trivial
  | [(u, k)], x, n, m, g => ⟨g.1, trivial⟩
  | (u, k) :: (v, j) :: r, x, n, m, g => ⟨g.1, gaps_last (g := (v, j) :: r) g.2⟩
/-- a text whose words are spaced -/
structure Spaced (ws : List Str) (z : Str) : Prop where
  ex : ∃ k g, tl z = List.replicate k 32 ++ glueS g ∧ g.map (·.1) = ws ∧ Gaps g
theorem rep_tl (k : Int) : tl (repS (" " : Str) k) = List.replicate k.toNat 32 := by
  have e : (Str.ofString " ").cps.toList = [32] := by decide +kernel
  show (List.replicate k.toNat (Str.ofString " ").cps.toList).flatten.toArray.toList = _
  rw [e]
  simp
theorem list_ne_hand {H : Hp} {h d p : Addr} {ws : List Str} (hh : HandAt H h d) (e : H p = some (.lst (ws.map V.str))) : p ≠ h := by
  intro z
  subst z
  obtain ⟨n, ds, h1, _, _⟩ := hh
  rw [h1] at e
  cases ws <;> cases e
section
variable {P : Program} {w : World} {K : PySem.W.Frag} {mg : Str → Option Value} {base : Heap}
def spSpaced : Sp := fun vs H Q _ => ∃ (h d p : Addr) (ws : List Str), vs = [.ref h, .ref p] ∧ HandAt H h d ∧ H p = some (.lst (ws.map V.str)) ∧ ws.length ≤ 200 ∧ (∀ y ∈ ws, y.length ≤ 100) ∧
  ∀ z H', Spaced ws z → (z : Str).length ≤ 100000 → Keep h H H' → HandAt H' h d → Q (.str z) H'
def SpI (ws : List Str) (i : Nat) (z last : Str) : Prop := (i = 0 ∧ last = "" ∧ ∃ k, tl z = List.replicate k 32) ∨ ∃ k g, tl z = List.replicate k 32 ++ glueS (g ++ [(last, 0)]) ∧ g.map (·.1) ++ [last] = ws.take i ∧ Gaps (g ++ [(last, 0)])
theorem SpI.start {ws : List Str} {z : Str} {k : Nat} (h : tl z = List.replicate k 32) : SpI ws 0 z "" := .inl ⟨rfl, rfl, k, h⟩
theorem SpI.step {ws : List Str} {i : Nat} {z last y : Str} {n : Nat} (h : SpI ws i z last) (hy : ws[i]? = some y) (hn : need last y = true → 0 < n) {z' : Str} (e : tl z' = tl z ++ List.replicate n 32 ++ tl y) : SpI ws (i + 1) z' y := by
  rcases h with ⟨rfl, rfl, k, h⟩ | ⟨k, g, h, hg, gp⟩
  · refine .inr ⟨k + n, [], ?_, ?_, trivial⟩
    · rw [e, h, List.replicate_append_replicate]
      show _ = _ ++ (tl y ++ (List.replicate 0 32 ++ []))
      simp
    · rw [List.take_add_one, hy]
      rfl
  · refine .inr ⟨k, g ++ [(last, n)], ?_, ?_, gaps_snoc gp hn⟩
    · rw [e, h, glueS_snoc, glueS_snoc, glueS_snoc]
      simp only [List.append_assoc, List.replicate_zero, List.append_nil]
    · rw [List.take_add_one, hy, ← hg, List.map_append]
      rfl
theorem SpI.done {ws : List Str} {z last : Str} {n : Nat} (h : SpI ws ws.length z last) {z' : Str} (e : tl z' = tl z ++ List.replicate n 32) : Spaced ws z' := by
  rcases h with ⟨h0, rfl, k, h⟩ | ⟨k, g, h, hg, gp⟩
  · have hw : ws = [] := List.length_eq_zero_iff.mp h0
    refine ⟨k + n, [], ?_, by rw [hw]; rfl, trivial⟩
    rw [e, h, List.replicate_append_replicate]
    exact (List.append_nil _).symm
  · rw [List.take_length] at hg
    refine ⟨k, g ++ [(last, n)], ?_, by rw [List.map_append]; exact hg, gaps_last gp⟩
    rw [e, h, glueS_snoc, glueS_snoc]
    simp only [List.append_assoc, List.replicate_zero, List.append_nil, List.nil_append]
theorem k_law_spaced (T : Tx w K mg) : C8.Cal P w K mg base 2 "_law_spaced" spSpaced [] := by
  refine cal_of (N := n_law_spaced) T.d_law_spaced sc_law_spaced (fun _ _ F => F.bindsN fun _ _ _ _ _ _ us hl => match us, hl with | [_, _], _ => rfl) (fun vs H Q E h => ?_) (fun f cdv A outer s H vs Q E hr h => ?_)
  · obtain ⟨a, d, p, ws, rfl, _⟩ := h
    rfl
  · obtain ⟨a, d, p, ws, rfl, hh, e, hl, hy, q⟩ := h
    have pa := list_ne_hand hh e
    refine ⟨_, (pss_cons (ps_asg (pe_op op_mul2 pe_str (C8.pe_c (k_law_take T) hr (by first | decide | omega) (by rfl) (pa_cons (pv 0) (pa_cons pe_int pa_nil)))) (pg_name (i := 2) sc_law_spaced.nd rfl (Or.inl rfl))) (pss_cons (ps_asg pe_str (pg_name (i := 3) sc_law_spaced.nd rfl (Or.inl rfl))) (pss_cons (ps_for PassesOwn.never rfl (pi_list (pv 1) : PI _ _ _ (iList K _)) (pg_name (i := 4) sc_law_spaced.nd rfl (Or.inl rfl)) (C8.pss_cut (ps_asg (pe_or (pe_and (W23.pe_bm0K (K := K) PySem.F.plainAttrs_str PySem.F.slot_str_isalpha PySem.F.type_str_isalpha (W23.mt_alpha : MtR _ _ W23.rAlpha) (pv 3)) (pe_one (W23.pe_bm0K (K := K) PySem.F.plainAttrs_str PySem.F.slot_str_isalpha PySem.F.type_str_isalpha (W23.mt_alpha : MtR _ _ W23.rAlpha) (pv 4)))) (pe_one (pe_and (W23.pe_bm0K (K := K) PySem.F.plainAttrs_str PySem.F.slot_str_isdigit PySem.F.type_str_isdigit (W23.mt_digit : MtR _ _ W23.rDigit) (pv 3)) (pe_one (W23.pe_bm0K (K := K) PySem.F.plainAttrs_str PySem.F.slot_str_isdigit PySem.F.type_str_isdigit (W23.mt_digit : MtR _ _ W23.rDigit) (pv 4)))))) (pg_name (i := 5) sc_law_spaced.nd rfl (Or.inl rfl))) (pss_cons (ps_asg (pe_op op_add3 (pe_op op_add3 (pv 2) (pe_op op_mul2 pe_str (pe_op op_add3 (pe_callTy call_int2 (by rfl) T.z_int (by decide +kernel) (pa_cons (pv 5) pa_nil)) (C8.pe_c (k_law_take T) hr (by first | decide | omega) (by rfl) (pa_cons (pv 0) (pa_cons pe_int pa_nil)))))) (pv 4)) (pg_name (i := 2) sc_law_spaced.nd rfl (Or.inl rfl))) (pss_one (ps_asg (pv 4) (pg_name (i := 3) sc_law_spaced.nd rfl (Or.inl rfl))))))) (pss_one (ps_ret (pe_op op_add3 (pv 2) (pe_op op_mul2 pe_str (C8.pe_c (k_law_take T) hr (by first | decide | omega) (by rfl) (pa_cons (pv 0) (pa_cons pe_int pa_nil)))))))))), ?_⟩
    walk_at "xxZ"
    refine ⟨a, d, _, rfl, hh, by omega, fun r H1 r0 r1 c1 hh1 => ?_⟩
    walk_at "xxZ"
    refine o_mulS (by omega) (by omega) (by decide +kernel) ?_
    walk_at "xxZ"
    have l1 : (Str.ofString " ").length = 1 := by decide +kernel
    have lrep : ∀ k : Int, (repS (Str.ofString " ") k).length = k.toNat := fun k => by rw [repS_len, l1, Nat.mul_one]
    refine f_list (xs := ws.map V.str) (fun i σ H' => ∃ (x y : Option V) (z last : Str), σ = [some (.ref a), some (.ref p), some (.str z), some (.str last), x, y] ∧ HandAt H' a d ∧ Keep a H H' ∧ SpI ws i z last ∧ z.length ≤ 2 + i * 110) ⟨none, none, _, _, rfl, hh1, c1.keep, .start (rep_tl r), by rw [lrep]; omega⟩ (fun i σ H' hi g => ?_) (fun i u σ H2 hu g => ?_) (fun σ H2 g => ?_)
    · obtain ⟨_, _, _, _, _, _, k, _⟩ := g
      exact lst_of (k p _ pa e)
    · obtain ⟨x, y, z, last, rfl, hh2, k2, sp, lz2⟩ := g
      rw [List.getElem?_map] at hu
      obtain ⟨y0, hy0, rfl⟩ := Option.map_eq_some_iff.mp hu
      have hi := (List.getElem?_eq_some_iff.mp hy0).1
      have ly := hy y0 (List.mem_of_getElem? hy0)
      walk_at "xxZ"
      refine s_cut (fun σ H' => H' = H2 ∧ σ = [some (.ref a), some (.ref p), some (.str z), some (.str last), some (.str y0), some (.bl (need last y0))]) ?_ (fun σ H3 p3 => ?_)
      · refine s_asg ?_
        refine e_orV ?_
        refine e_andV ?_
        have nd : need last y0 = ((Txt.isalpha last && Txt.isalpha y0) || (Txt.isdigit last && Txt.isdigit y0)) := rfl
        have fin : ∀ b : Bool, b = need last y0 → ∀ σ : L2.St, σ = [some (.ref a), some (.ref p), some (.str z), some (.str last), some (.str y0), some (.bl b)] → H2 = H2 ∧ σ = [some (.ref a), some (.ref p), some (.str z), some (.str last), some (.str y0), some (.bl (need last y0))] := fun b e σ h => ⟨rfl, by rw [← e]; exact h⟩
        have right : (Txt.isalpha last && Txt.isalpha y0) = false → tAndV (tBM0 K "str" rDigit (tVar 3)) (tBM0 K "str" rDigit (tVar 4)) ([some (.ref a), some (.ref p), some (.str z), some (.str last), some (.str y0), y] : L2.St) H2 fun x H1 => gName 5 x ([some (.ref a), some (.ref p), some (.str z), some (.str last), some (.str y0), y] : L2.St) H1 fun σ H' => H' = H2 ∧ σ = [some (.ref a), some (.ref p), some (.str z), some (.str last), some (.str y0), some (.bl (need last y0))] := fun h0 => by
          refine e_andV ?_
          refine m_bm0 ?_
          walk_at "xxZ"
          refine m_digit ?_
          walk_at "xxZ"
          cases h1 : Txt.isdigit last with
          | false =>
            walk_at "xxZ"
            exact fin _ (by rw [nd, h0, h1]; rfl) _ rfl
          | true =>
            walk_at "xxZ"
            refine m_bm0 ?_
            walk_at "xxZ"
            refine m_digit ?_
            walk_at "xxZ"
            exact fin _ (by rw [nd, h0, h1]; rfl) _ rfl
        refine m_bm0 ?_
        walk_at "xxZ"
        refine m_alpha ?_
        walk_at "xxZ"
        cases h1 : Txt.isalpha last with
        | false =>
          walk_at "xxZ"
          exact right (by rw [h1]; rfl)
        | true =>
          walk_at "xxZ"
          refine m_bm0 ?_
          walk_at "xxZ"
          refine m_alpha ?_
          walk_at "xxZ"
          cases h2 : Txt.isalpha y0 with
          | false =>
            walk_at "xxZ"
            exact right (by rw [h1, h2]; rfl)
          | true =>
            walk_at "xxZ"
            exact fin _ (by rw [nd, h1, h2]; rfl) _ rfl
      obtain ⟨rfl, rfl⟩ := p3
      walk_at "xxZ"
      refine ⟨a, d, _, rfl, hh2, by omega, fun r2 H4 r3 r4 c4 hh4 => ?_⟩
      have hb : 0 ≤ (if need last y0 = true then (1 : Int) else 0) ∧ (if need last y0 = true then (1 : Int) else 0) ≤ 1 := by split <;> omega
      walk_at "xxZ"
      refine o_mulS (by omega) (by omega) (by decide +kernel) ?_
      walk_at "xxZ"
      refine o_addS (lzs (by rw [lrep]; omega)) ?_
      walk_at "xxZ"
      refine o_addS (lzs (by rw [app_len, lrep]; omega)) ?_
      walk_at "xxZ"
      refine ⟨_, _, _, _, rfl, hh4, k2.trans c4.keep, sp.step hy0 (n := ((if need last y0 = true then (1 : Int) else 0) + r2).toNat) (fun h => by rw [if_pos h]; omega) ?_, ?_⟩
      · rw [tl_app, tl_app, show tl (repS (Str.ofString " ") _) = _ from rep_tl _]
      · rw [app_len, app_len, lrep]
        omega
    · obtain ⟨x, y, z, last, rfl, hh2, k2, sp, lz2⟩ := g
      rw [List.length_map] at sp lz2
      walk_at "xxZ"
      refine ⟨a, d, _, rfl, hh2, by omega, fun r2 H4 r3 r4 c4 hh4 => ?_⟩
      refine o_mulS (by omega) (by omega) (by decide +kernel) ?_
      refine o_addS (lzs (by rw [lrep]; omega)) ?_
      refine q _ H4 (sp.done (n := r2.toNat) ?_) ?_ (k2.trans c4.keep) hh4
      · rw [tl_app, show tl (repS (Str.ofString " ") _) = _ from rep_tl _]
      · rw [app_len, lrep]
        omega
end
end K23
-- WIDE
namespace K23
open PySem PySem.Spec PyProof.Rows L2 Wy WN WQ WS WC WE WM W3 W4 W5 W7 W8 W9 W10 W23 WXD

theorem Nw.small {n : Nat} {ws : List Str} (h : Nw n ws) (hn : n ≤ 10000) : SmallW ws := ⟨Nat.le_trans h.len hn, fun y hy => Nat.le_trans (h.wd y hy).2 (by decide)⟩
theorem set_eq {α : Type} {ws : List α} {i : Nat} {y : α} (h : i < ws.length) : ws.set i y = ws.take i ++ y :: ws.drop (i + 1) := by
  rw [List.set_eq_take_append_cons_drop, if_pos h]
theorem Nw.set {n : Nat} {ws : List Str} {i : Nat} {D : Str} (h : Nw n ws) (hi : i < ws.length) (hD : isG D) (hl : D.length ≤ 14) : Nw n (ws.set i D) := by
  refine ⟨fun x hx => ?_, ?_, by rw [List.length_set]; exact h.len⟩
  · rcases List.mem_or_eq_of_mem_set hx with hx | rfl
    · exact h.wd x hx
    · exact ⟨.inr (.inl hD), hl⟩
  · have e : ws = ws.take i ++ ws[i] :: ws.drop (i + 1) := by
      rw [← List.drop_eq_getElem_cons hi, List.take_append_drop]
    have hn := h.nj
    rw [e] at hn
    rw [set_eq hi]
    exact nj_glue hD.pl (nj_tail (nj_suf hn)) (nj_pre hn)
section
variable {P : Program} {w : World} {K : PySem.W.Frag} {mg : Str → Option Value} {base : Heap}
def spWrongN : Sp := fun vs H Q _ => ∃ (h d p : Addr) (ws : List Str) (n : Nat), vs = [.ref h, .ref p] ∧ HandAt H h d ∧ H p = some (.lst (ws.map V.str)) ∧ Nw n ws ∧ n ≤ 200 ∧ (∃ (i : Nat) (x : Str), ws[i]? = some x ∧ isG x) ∧ (∀ x ∈ ws, isG x → x.length ≤ 10) ∧
  ∀ p' i x D H', ws[i]? = some x → isG x → BadNum D → (D : Str).length ≤ 14 → H' p' = some (.lst ((ws.set i D).map V.str)) → Keep h H H' → HandAt H' h d → Q (.ref p') H'
theorem k_law_wrong_number (T : Tx w K mg) : C8.Cal P w K mg base 2 "_law_wrong_number" spWrongN [] := by
  refine cal_of (N := n_law_wrong_number) T.d_law_wrong_number sc_law_wrong_number (fun _ _ F => F.bindsN fun _ _ _ _ _ _ us hl => match us, hl with | [_, _], _ => rfl) (fun vs H Q E h => ?_) (fun f cdv A outer s H vs Q E hr h => ?_)
  · obtain ⟨a, d, p, ws, n, rfl, _⟩ := h
    rfl
  · obtain ⟨a, d, p, ws, n, rfl, hh, e, nw, hn, hex, hten, q⟩ := h
    have pa := list_ne_hand hh e
    have hlen := nw.len
    refine ⟨_, (pss_cons (ps_setLc (i := 2) (own := [("k", 5)]) (g := gName 5) (tt := tTr K _) (by rfl) sc_law_wrong_number.nd rfl rfl (sw_true rfl rfl rfl (by decide +kernel)) (pi_range1 (by rfl) T.z_range (pa_cons (pe_callB (call_len2 : CallR _ _ (rLn K)) (by rfl) T.z_len (by decide +kernel) (pa_cons (pv 1) pa_nil)) pa_nil)) (blkOk_by (own := [("k", 5)]) (N := n_law_wrong_number) (sc := defScope s_law_wrong_number) (by decide +kernel)) (fun _ _ _ _ _ => pg_name (i := 5) sc_law_wrong_number.nd rfl (Or.inl rfl)) (fun _ _ _ _ _ => (pts_one (pt_tr (W23.pe_bm0K (K := K) PySem.F.plainAttrs_str PySem.F.slot_str_isdigit PySem.F.type_str_isdigit (W23.mt_digit : MtR _ _ W23.rDigit) (pe_ix (ix_seq : IxR _ (rIx K)) (pv 1) (pv 5) (fun _ _ => rfl)))))) (fun _ _ _ _ _ => (pv 5))) (pss_cons (ps_asg (pe_ix (ix_seq : IxR _ (rIx K)) (pv 2) (C8.pe_c (k_law_take T) hr (by first | decide | omega) (by rfl) (pa_cons (pv 0) (pa_cons (pe_callB (call_len2 : CallR _ _ (rLn K)) (by rfl) T.z_len (by decide +kernel) (pa_cons (pv 2) pa_nil)) pa_nil))) (fun _ _ => rfl)) (pg_name (i := 3) sc_law_wrong_number.nd rfl (Or.inl rfl))) (pss_cons (ps_asg (pe_ix (ix_seq : IxR _ (rIx K)) (pe_lst (pa_cons (pe_op op_add3 pe_str (pe_ix (ix_seq : IxR _ (rIx K)) (pv 1) (pv 3) (fun _ _ => rfl))) (pa_cons pe_str (pa_cons pe_str pa_nil)))) (C8.pe_c (k_law_take T) hr (by first | decide | omega) (by rfl) (pa_cons (pv 0) (pa_cons pe_int pa_nil))) (fun _ _ => rfl)) (pg_name (i := 4) sc_law_wrong_number.nd rfl (Or.inl rfl))) (pss_one (ps_ret (pe_op op_add3 (pe_op op_add3 (pe_slice (sl_2 : SlR _ (rSl2 K)) (pv 1) po_none (po_some (pv 3))) (pe_lst (pa_cons (pv 4) pa_nil))) (pe_slice (sl_2 : SlR _ (rSl2 K)) (pv 1) (po_some (pe_op op_add3 (pv 3) pe_int)) po_none))))))), ?_⟩
    walk_at "xxZ"
    refine b_lenL (lst_of e) ?_
    rw [List.length_map]
    walk_at "xxZ"
    refine c_accR (fun i acc _ => acc.length ≤ i ∧ (∀ v ∈ acc, ∃ (k : Nat) (x : Str), v = .int (k : Int) ∧ ws[k]? = some x ∧ isG x) ∧ ((∃ (k : Nat) (x : Str), k < i ∧ ws[k]? = some x ∧ isG x) → acc ≠ [])) (fun _ _ _ _ _ h => h) (fun i acc H hi h => small1000' (by have := h.1; omega)) ⟨Nat.le_refl _, fun v hv => by (cases hv), fun z => by obtain ⟨k, x, hk, _⟩ := z; omega⟩ (fun i H1 acc N M hi s1 r hN hM => ?_) (fun D H1 ys nD s1 e1 r => ?_)
    · refine g_name ⟨rfl, ?_⟩
      obtain ⟨y, hy⟩ : ∃ y, ws[i]? = some y := ⟨ws[i], List.getElem?_eq_getElem hi⟩
      have ep := s1 _ _ e
      refine t_tr ?_
      refine m_bm0 ?_
      walk_at "xxZ"
      refine o_ixL (lst_of ep) (atI_of (j := i) (v := .str y) (by omega) (by rw [List.getElem?_map, hy]; rfl)) ?_
      refine m_digit ?_
      have wy := nw.wd y (List.mem_of_getElem? hy)
      obtain ⟨r1, r2, r3⟩ := r
      cases hd : Txt.isdigit y with
      | true =>
        have hg := wy.1.dig.mp hd
        walk_at "xxZ"
        refine hN _ H1 (Same.refl _) ⟨by rw [List.length_append]; show _ + 1 ≤ _; omega, fun v hv => ?_, fun _ z => by simp at z⟩
        rcases List.mem_append.mp hv with hv | hv
        · exact r2 v hv
        · refine ⟨i, y, ?_, hy, hg⟩
          rw [List.mem_singleton.mp hv, Int.zero_add]
      | false =>
        walk_at "xxZ"
        refine hM H1 (Same.refl _) ⟨by omega, r2, fun z => r3 ?_⟩
        obtain ⟨k, x, hk, hx, hg⟩ := z
        refine ⟨k, x, ?_, hx, hg⟩
        rcases Nat.lt_or_ge k i with h | h
        · exact h
        · have : k = i := by omega
          subst this
          rw [hy] at hx
          cases hx
          rw [hg.digit] at hd
          cases hd
    · obtain ⟨r1, r2, r3⟩ := r
      have hne : ys ≠ [] := r3 (by
        obtain ⟨i, x, hx, hg⟩ := hex
        have := (List.getElem?_eq_some_iff.mp hx).1
        exact ⟨i, x, by omega, hx, hg⟩)
      have hpos : 0 < ys.length := List.length_pos_iff.mpr hne
      have e2 := s1 _ _ e
      have hh1 := hh.same s1
      have nn := hh.new nD
      walk_at "xxZ"
      refine b_lenL (lst_of e1) ?_
      walk_at "xxZ"
      refine ⟨a, d, _, rfl, hh1, by omega, fun r H2 r0 r1 c2 hh2 => ?_⟩
      obtain ⟨j, rfl⟩ := nat_of r0
      have hj : ys[j]? = some ys[j] := List.getElem?_eq_getElem (by omega)
      obtain ⟨i, x, ev, hx, hg⟩ := r2 _ (List.getElem_mem (by omega : j < ys.length))
      rw [ev] at hj
      refine o_ixL (lst_of (c2.at e1 nn.1.symm)) (atI_nat hj) ?_
      have e3 := c2.at e2 pa
      have hi := (List.getElem?_eq_some_iff.mp hx).1
      have lx := (nw.wd x (List.mem_of_getElem? hx)).2
      walk_at "xxZ"
      refine o_ixL (lst_of e3) (atI_nat (j := i) (by rw [List.getElem?_map, hx]; rfl)) ?_
      have l0 : (Str.ofString "0").length = 1 := by decide +kernel
      refine o_addS (lzs (by rw [l0]; omega)) ?_
      walk_at "xxZ"
      rename_i q4 H4 n4 s4 e4
      have hh4 := hh2.same s4
      have nn4 := hh2.new n4
      refine ⟨a, d, _, rfl, hh4, by omega, fun r5 H5 r50 r51 c5 hh5 => ?_⟩
      have l10 := hten x (List.mem_of_getElem? hx) hg
      obtain ⟨D, g, hD, lD⟩ : ∃ D : Str, atI [V.str (("0" : Str) ++ x), .str "12345678901", .str "00"] r5 = some (.str D) ∧ BadNum D ∧ D.length ≤ 14 := by
        have : r5 = 0 ∨ r5 = 1 ∨ r5 = 2 := by omega
        rcases this with rfl | rfl | rfl
        · exact ⟨_, rfl, zero_bad hg, by rw [app_len]; show (Str.ofString "0").length + _ ≤ _; omega⟩
        · have := bad_num (D := "12345678901") (by decide +kernel)
          exact ⟨_, rfl, this.1, this.2⟩
        · have := bad_num (D := "00") (by decide +kernel)
          exact ⟨_, rfl, this.1, this.2⟩
      refine o_ixL (lst_of (c5.at e4 nn4.1.symm)) g ?_
      have e5 := c5.at (s4 _ _ e3) pa
      have k5 : Keep a H H5 := ((s1.keep.trans c2.keep).trans s4.keep).trans c5.keep
      clear e4 e3 e2 e1 e
      walk_at "xxZ"
      rename_i q6 H6 n6 s6 e6 q7 H7 n7 s7 e7
      rw [cut_pre] at e6
      refine o_addL (s7 _ _ e6) e7 (lz1000 (by have := List.length_take_le i (ws.map V.str); show (List.take _ _).length + 1 ≤ _; omega)) fun q8 H8 n8 s8 e8 => ?_
      have e58 := s8 _ _ (s7 _ _ (s6 _ _ e5))
      walk_at "xxZ"
      rename_i q9 H9 n9 s9 e9
      have e9 : H9 q9 = some (.lst (cutV (ws.map V.str) (some ((i + 1 : Nat) : Int)) none)) := e9
      rw [cut_suf] at e9
      refine o_addL (s9 _ _ e8) e9 (lz1000 (by
        have := List.length_take_le i (ws.map V.str)
        rw [List.length_append, List.length_drop, List.length_map]
        show (List.take _ _).length + 1 + _ ≤ _
        omega)) fun q10 H10 n10 s10 e10 => ?_
      have S := s6.trans (s7.trans (s8.trans (s9.trans s10)))
      refine q q10 i x D H10 hx hg hD lD ?_ (k5.trans S.keep) (hh5.same S)
      rw [e10, set_eq hi, List.map_append, List.map_cons, List.map_take, List.map_drop, List.append_assoc]
      rfl
end
end K23
-- WIDE
namespace K23
open PySem PySem.Spec PyProof.Rows L2 Wy WN WQ WS WC WE WM W3 W4 W5 W7 W8 W9 W10 W23 WXD

/-- lists of words that stand in the heap -/
inductive LsAll (H : Hp) : List V → List (List Str) → Prop where
  | nil : LsAll H [] []
  | cons {a : Addr} {ws : List Str} {us : List V} {wss : List (List Str)} : H a = some (.lst (ws.map V.str)) → LsAll H us wss → LsAll H (.ref a :: us) (ws :: wss)
theorem LsAll.same {H H' : Hp} (s : Same H H') : ∀ {us : List V} {wss : List (List Str)}, LsAll H us wss → LsAll H' us wss
  | _, _, .nil => .nil
  | _, _, .cons e r => .cons (s _ _ e) (LsAll.same s r)
theorem LsAll.app {H : Hp} {vs : List V} {w2 : List (List Str)} (h2 : LsAll H vs w2) : ∀ {us : List V} {w1 : List (List Str)}, LsAll H us w1 → LsAll H (us ++ vs) (w1 ++ w2)
  | _, _, .nil => h2
  | _, _, .cons e r => .cons e (LsAll.app h2 r)
theorem LsAll.len {H : Hp} : ∀ {us : List V} {wss : List (List Str)}, LsAll H us wss → us.length = wss.length
  | _, _, .nil => rfl
  | _, _, .cons _ r => by rw [List.length_cons, List.length_cons, LsAll.len r]
theorem LsAll.get {H : Hp} : ∀ {us : List V} {wss : List (List Str)} {j : Nat} {ws : List Str}, LsAll H us wss → wss[j]? = some ws → ∃ a, us[j]? = some (.ref a) ∧ H a = some (.lst (ws.map V.str))
  | _, _, 0, _, .cons (a := a) e _, h => by
    cases h
    exact ⟨a, rfl, e⟩
  | _, _, j + 1, _, .cons _ r, h => LsAll.get (j := j) r h
theorem LsAll.keep {H H' : Hp} {h d : Addr} (hh : HandAt H h d) (k : Keep h H H') : ∀ {us : List V} {wss : List (List Str)}, LsAll H us wss → LsAll H' us wss
  | _, _, .nil => .nil
  | _, _, .cons e r => .cons (k _ _ (list_ne_hand hh e) e) (LsAll.keep hh k r)
section
variable {P : Program} {w : World} {K : PySem.W.Frag} {mg : Str → Option Value} {base : Heap}
def spWrongW : Sp := fun vs H Q _ => ∃ (h d : Addr), vs = [.ref h] ∧ HandAt H h d ∧
  ∀ p t m H', t ∈ TESTS → m < 9 → H' p = some (.lst ((whenW m t).map V.str)) → Keep h H H' → HandAt H' h d → Q (.ref p) H'
theorem k_law_wrong_when (T : Tx w K mg) : C8.Cal P w K mg base 2 "_law_wrong_when" spWrongW [] := by
  refine cal_of (N := n_law_wrong_when) T.d_law_wrong_when sc_law_wrong_when (fun _ _ F => F.bindsN fun _ _ _ _ _ _ us hl => match us, hl with | [_], _ => rfl) (fun vs H Q E h => ?_) (fun f cdv A outer s H vs Q E hr h => ?_)
  · obtain ⟨a, d, rfl, _⟩ := h
    rfl
  · obtain ⟨a, d, rfl, hh, q⟩ := h
    refine ⟨_, (pss_cons (ps_asg pe_str (pg_name (i := 1) sc_law_wrong_when.nd rfl (Or.inl rfl))) (pss_cons (ps_asg (pe_lst (pa_cons (pe_lst (pa_cons pe_str (pa_cons pe_str (pa_cons pe_str pa_nil)))) (pa_cons (pe_lst (pa_cons (pv 1) (pa_cons pe_str (pa_cons pe_str pa_nil)))) (pa_cons (pe_lst (pa_cons pe_str (pa_cons pe_str (pa_cons pe_str (pa_cons pe_str (pa_cons pe_str (pa_cons pe_str pa_nil))))))) (pa_cons (pe_lst (pa_cons pe_str (pa_cons pe_str (pa_cons pe_str pa_nil)))) pa_nil))))) (pg_name (i := 2) sc_law_wrong_when.nd rfl (Or.inl rfl))) (pss_cons (ps_asg (pe_op op_add3 (pv 2) (pe_lst (pa_cons (pe_lst (pa_cons pe_str (pa_cons pe_str (pa_cons (pv 1) (pa_cons pe_str (pa_cons pe_str pa_nil)))))) (pa_cons (pe_lst (pa_cons pe_str (pa_cons pe_str (pa_cons pe_str (pa_cons pe_str (pa_cons pe_str pa_nil)))))) (pa_cons (pe_lst (pa_cons pe_str (pa_cons pe_str (pa_cons pe_str (pa_cons pe_str (pa_cons pe_str pa_nil)))))) pa_nil))))) (pg_name (i := 2) sc_law_wrong_when.nd rfl (Or.inl rfl))) (pss_cons (ps_asg (pe_op op_add3 (pv 2) (pe_lst (pa_cons (pe_lst (pa_cons pe_str (pa_cons pe_str (pa_cons pe_str (pa_cons pe_str pa_nil))))) (pa_cons (pe_lst (pa_cons pe_str (pa_cons pe_str (pa_cons pe_str (pa_cons pe_str (pa_cons pe_str (pa_cons pe_str (pa_cons pe_str (pa_cons pe_str pa_nil))))))))) (pa_cons (pe_lst (pa_cons pe_str (pa_cons pe_str pa_nil))) pa_nil))))) (pg_name (i := 2) sc_law_wrong_when.nd rfl (Or.inl rfl))) (pss_cons (ps_asg (pe_op op_add3 (pv 2) (pe_lst (pa_cons (pe_lst (pa_cons pe_str (pa_cons pe_str (pa_cons pe_str (pa_cons pe_str (pa_cons pe_str (pa_cons pe_str (pa_cons pe_str (pa_cons pe_str (pa_cons pe_str pa_nil)))))))))) (pa_cons (pe_lst (pa_cons pe_str (pa_cons pe_str (pa_cons pe_str (pa_cons pe_str pa_nil))))) (pa_cons (pe_lst (pa_cons pe_str (pa_cons pe_str (pa_cons pe_str pa_nil)))) pa_nil))))) (pg_name (i := 2) sc_law_wrong_when.nd rfl (Or.inl rfl))) (pss_cons (ps_asg (pe_op op_add3 (pv 2) (pe_lst (pa_cons (pe_lst (pa_cons pe_str (pa_cons pe_str (pa_cons pe_str (pa_cons pe_str (pa_cons pe_str (pa_cons pe_str (pa_cons pe_str pa_nil)))))))) (pa_cons (pe_lst (pa_cons pe_str (pa_cons pe_str (pa_cons pe_str (pa_cons pe_str (pa_cons pe_str (pa_cons pe_str (pa_cons pe_str pa_nil)))))))) (pa_cons (pe_lst (pa_cons pe_str (pa_cons pe_str (pa_cons pe_str (pa_cons pe_str pa_nil))))) pa_nil))))) (pg_name (i := 2) sc_law_wrong_when.nd rfl (Or.inl rfl))) (pss_cons (ps_asg (pe_op op_add3 (pv 2) (pe_lst (pa_cons (pe_lst (pa_cons pe_str (pa_cons pe_str (pa_cons pe_str (pa_cons pe_str (pa_cons pe_str (pa_cons pe_str pa_nil))))))) (pa_cons (pe_lst (pa_cons pe_str (pa_cons pe_str (pa_cons pe_str (pa_cons pe_str (pa_cons pe_str (pa_cons pe_str (pa_cons pe_str (pa_cons pe_str pa_nil))))))))) (pa_cons (pe_lst (pa_cons pe_str (pa_cons pe_str (pa_cons pe_str (pa_cons pe_str pa_nil))))) pa_nil))))) (pg_name (i := 2) sc_law_wrong_when.nd rfl (Or.inl rfl))) (pss_cons (ps_asg (pe_op op_add3 (pv 2) (pe_lst (pa_cons (pe_lst (pa_cons pe_str (pa_cons pe_str (pa_cons pe_str (pa_cons pe_str (pa_cons pe_str pa_nil)))))) (pa_cons (pe_lst (pa_cons pe_str (pa_cons pe_str (pa_cons pe_str (pa_cons pe_str (pa_cons pe_str pa_nil)))))) (pa_cons (pe_lst (pa_cons pe_str (pa_cons pe_str (pa_cons pe_str (pa_cons pe_str (pa_cons pe_str pa_nil)))))) pa_nil))))) (pg_name (i := 2) sc_law_wrong_when.nd rfl (Or.inl rfl))) (pss_cons (ps_asg (pe_op op_add3 (pv 2) (pe_lst (pa_cons (pe_lst (pa_cons pe_str (pa_cons pe_str (pa_cons pe_str (pa_cons pe_str (pa_cons pe_str pa_nil)))))) (pa_cons (pe_lst (pa_cons pe_str (pa_cons pe_str (pa_cons pe_str (pa_cons pe_str (pa_cons pe_str pa_nil)))))) pa_nil)))) (pg_name (i := 2) sc_law_wrong_when.nd rfl (Or.inl rfl))) (pss_one (ps_ret (pe_op op_add3 (pe_lst (pa_cons pe_str (pa_cons (pe_callTy (WXD.call_strA : CallR _ _ WXD.rStrA) (by rfl) T.z_str (by decide +kernel) (pa_cons (C8.pe_c (k_law_take T) hr (by first | decide | omega) (by rfl) (pa_cons (pv 0) (pa_cons pe_int pa_nil))) pa_nil)) (pa_cons pe_str pa_nil)))) (pe_ix (ix_seq : IxR _ (rIx K)) (pv 2) (C8.pe_c (k_law_take T) hr (by first | decide | omega) (by rfl) (pa_cons (pv 0) (pa_cons (pe_callB (call_len2 : CallR _ _ (rLn K)) (by rfl) T.z_len (by decide +kernel) (pa_cons (pv 2) pa_nil)) pa_nil))) (fun _ _ => rfl)))))))))))))), ?_⟩
    walk_at "xxZ"
    rename_i az1 Gaz1 maz1 raz1 gaz1 az2 Gaz2 maz2 raz2 gaz2 az3 Gaz3 maz3 raz3 gaz3 az4 Gaz4 maz4 raz4 gaz4 az5 Gaz5 maz5 raz5 gaz5 bz1 Gbz1 mbz1 rbz1 gbz1 bz2 Gbz2 mbz2 rbz2 gbz2 bz3 Gbz3 mbz3 rbz3 gbz3 bz4 Gbz4 mbz4 rbz4 gbz4
    have lp0 : LsAll Gaz5 [.ref az1, .ref az2, .ref az3, .ref az4] ([["if", "<", "3"], ["abcdefghijklm", "<", "3"], ["xs", "[", "row", "]", "<", "3"], ["a", "<", "then"]] : List (List Str)) := (.cons (raz5 _ _ (raz4 _ _ (raz3 _ _ (raz2 _ _ gaz1)))) (.cons (raz5 _ _ (raz4 _ _ (raz3 _ _ gaz2))) (.cons (raz5 _ _ (raz4 _ _ gaz3)) (.cons (raz5 _ _ gaz4) .nil))))
    have sp0 := (raz1.trans (raz2.trans (raz3.trans (raz4.trans raz5))))
    have S0 : Same H Gaz5 := sp0
    have eA0 := gaz5
    have lA0 := lp0
    obtain ⟨u0, hu0⟩ : ∃ u : List V, u = [.ref az1, .ref az2, .ref az3, .ref az4] := ⟨_, rfl⟩
    rw [← hu0] at lA0
    have eA0 : Gaz5 az5 = some (.lst u0) := by rw [hu0]; exact eA0
    clear gaz1 maz1 raz1 gaz2 maz2 raz2 gaz3 maz3 raz3 gaz4 maz4 raz4 gaz5 maz5 raz5 sp0 lp0 hu0
    have lp1 : LsAll Gbz4 [.ref bz1, .ref bz2, .ref bz3] ([["a", "<", "abcdefghijklm", "+", "1"], ["5", "+", "3", "<", "a"], ["a", "+", "b", "<", "3"]] : List (List Str)) := (.cons (rbz4 _ _ (rbz3 _ _ (rbz2 _ _ gbz1))) (.cons (rbz4 _ _ (rbz3 _ _ gbz2)) (.cons (rbz4 _ _ gbz3) .nil)))
    have sp1 := (rbz1.trans (rbz2.trans (rbz3.trans rbz4)))
    have lB1 := LsAll.app lp1 (lA0.same sp1)
    refine o_addL (sp1 _ _ eA0) gbz4 (lz1000 (by rw [lA0.len]; show (4 : Nat) + 3 ≤ 100000; decide)) fun q1 H1 nq1 sq1 eB1 => ?_
    have S1 : Same H H1 := (S0.trans sp1).trans sq1
    obtain ⟨u1, hu1⟩ : ∃ u : List V, u = u0 ++ [.ref bz1, .ref bz2, .ref bz3] := ⟨_, rfl⟩
    have eA1 : H1 q1 = some (.lst u1) := by rw [hu1]; exact eB1
    have lA1 := lB1.same sq1
    rw [← hu1] at lA1
    clear gbz1 mbz1 rbz1 gbz2 mbz2 rbz2 gbz3 mbz3 rbz3 gbz4 mbz4 rbz4 sp1 lp1 hu1 lB1 eB1 lA0 eA0 S0 nq1 sq1
    walk_at "xxZ"
    rename_i cz1 Gcz1 mcz1 rcz1 gcz1 cz2 Gcz2 mcz2 rcz2 gcz2 cz3 Gcz3 mcz3 rcz3 gcz3 cz4 Gcz4 mcz4 rcz4 gcz4
    have lp2 : LsAll Gcz4 [.ref cz1, .ref cz2, .ref cz3] ([["a", "-", "<", "3"], ["a", "<", "2", "+", "xs", "[", "1", "]"], ["a", "<"]] : List (List Str)) := (.cons (rcz4 _ _ (rcz3 _ _ (rcz2 _ _ gcz1))) (.cons (rcz4 _ _ (rcz3 _ _ gcz2)) (.cons (rcz4 _ _ gcz3) .nil)))
    have sp2 := (rcz1.trans (rcz2.trans (rcz3.trans rcz4)))
    have lB2 := LsAll.app lp2 (lA1.same sp2)
    refine o_addL (sp2 _ _ eA1) gcz4 (lz1000 (by rw [lA1.len]; show (7 : Nat) + 3 ≤ 100000; decide)) fun q2 H2 nq2 sq2 eB2 => ?_
    have S2 : Same H H2 := (S1.trans sp2).trans sq2
    obtain ⟨u2, hu2⟩ : ∃ u : List V, u = u1 ++ [.ref cz1, .ref cz2, .ref cz3] := ⟨_, rfl⟩
    have eA2 : H2 q2 = some (.lst u2) := by rw [hu2]; exact eB2
    have lA2 := lB2.same sq2
    rw [← hu2] at lA2
    clear gcz1 mcz1 rcz1 gcz2 mcz2 rcz2 gcz3 mcz3 rcz3 gcz4 mcz4 rcz4 sp2 lp2 hu2 lB2 eB2 lA1 eA1 S1 nq2 sq2
    walk_at "xxZ"
    rename_i dz1 Gdz1 mdz1 rdz1 gdz1 dz2 Gdz2 mdz2 rdz2 gdz2 dz3 Gdz3 mdz3 rdz3 gdz3 dz4 Gdz4 mdz4 rdz4 gdz4
    have lp3 : LsAll Gdz4 [.ref dz1, .ref dz2, .ref dz3] ([["xs", "[", "ys", "[", "1", "]", "]", "<", "2"], ["not", "a", "<", "2"], ["a", "=", "3"]] : List (List Str)) := (.cons (rdz4 _ _ (rdz3 _ _ (rdz2 _ _ gdz1))) (.cons (rdz4 _ _ (rdz3 _ _ gdz2)) (.cons (rdz4 _ _ gdz3) .nil)))
    have sp3 := (rdz1.trans (rdz2.trans (rdz3.trans rdz4)))
    have lB3 := LsAll.app lp3 (lA2.same sp3)
    refine o_addL (sp3 _ _ eA2) gdz4 (lz1000 (by rw [lA2.len]; show (10 : Nat) + 3 ≤ 100000; decide)) fun q3 H3 nq3 sq3 eB3 => ?_
    have S3 : Same H H3 := (S2.trans sp3).trans sq3
    obtain ⟨u3, hu3⟩ : ∃ u : List V, u = u2 ++ [.ref dz1, .ref dz2, .ref dz3] := ⟨_, rfl⟩
    have eA3 : H3 q3 = some (.lst u3) := by rw [hu3]; exact eB3
    have lA3 := lB3.same sq3
    rw [← hu3] at lA3
    clear gdz1 mdz1 rdz1 gdz2 mdz2 rdz2 gdz3 mdz3 rdz3 gdz4 mdz4 rdz4 sp3 lp3 hu3 lB3 eB3 lA2 eA2 S2 nq3 sq3
    walk_at "xxZ"
    rename_i ez1 Gez1 mez1 rez1 gez1 ez2 Gez2 mez2 rez2 gez2 ez3 Gez3 mez3 rez3 gez3 ez4 Gez4 mez4 rez4 gez4
    have lp4 : LsAll Gez4 [.ref ez1, .ref ez2, .ref ez3] ([["a", "<", "2", "and", "b", "<", "3"], ["a", "<", "2", "or", "b", "<", "3"], ["a", "=", "<", "3"]] : List (List Str)) := (.cons (rez4 _ _ (rez3 _ _ (rez2 _ _ gez1))) (.cons (rez4 _ _ (rez3 _ _ gez2)) (.cons (rez4 _ _ gez3) .nil)))
    have sp4 := (rez1.trans (rez2.trans (rez3.trans rez4)))
    have lB4 := LsAll.app lp4 (lA3.same sp4)
    refine o_addL (sp4 _ _ eA3) gez4 (lz1000 (by rw [lA3.len]; show (13 : Nat) + 3 ≤ 100000; decide)) fun q4 H4 nq4 sq4 eB4 => ?_
    have S4 : Same H H4 := (S3.trans sp4).trans sq4
    obtain ⟨u4, hu4⟩ : ∃ u : List V, u = u3 ++ [.ref ez1, .ref ez2, .ref ez3] := ⟨_, rfl⟩
    have eA4 : H4 q4 = some (.lst u4) := by rw [hu4]; exact eB4
    have lA4 := lB4.same sq4
    rw [← hu4] at lA4
    clear gez1 mez1 rez1 gez2 mez2 rez2 gez3 mez3 rez3 gez4 mez4 rez4 sp4 lp4 hu4 lB4 eB4 lA3 eA3 S3 nq4 sq4
    walk_at "xxZ"
    rename_i fz1 Gfz1 mfz1 rfz1 gfz1 fz2 Gfz2 mfz2 rfz2 gfz2 fz3 Gfz3 mfz3 rfz3 gfz3 fz4 Gfz4 mfz4 rfz4 gfz4
    have lp5 : LsAll Gfz4 [.ref fz1, .ref fz2, .ref fz3] ([["a", "+", "-", "3", "<", "4"], ["xs", "[", "(", "1", ")", "]", "<", "2"], ["-", "a", "<", "2"]] : List (List Str)) := (.cons (rfz4 _ _ (rfz3 _ _ (rfz2 _ _ gfz1))) (.cons (rfz4 _ _ (rfz3 _ _ gfz2)) (.cons (rfz4 _ _ gfz3) .nil)))
    have sp5 := (rfz1.trans (rfz2.trans (rfz3.trans rfz4)))
    have lB5 := LsAll.app lp5 (lA4.same sp5)
    refine o_addL (sp5 _ _ eA4) gfz4 (lz1000 (by rw [lA4.len]; show (16 : Nat) + 3 ≤ 100000; decide)) fun q5 H5 nq5 sq5 eB5 => ?_
    have S5 : Same H H5 := (S4.trans sp5).trans sq5
    obtain ⟨u5, hu5⟩ : ∃ u : List V, u = u4 ++ [.ref fz1, .ref fz2, .ref fz3] := ⟨_, rfl⟩
    have eA5 : H5 q5 = some (.lst u5) := by rw [hu5]; exact eB5
    have lA5 := lB5.same sq5
    rw [← hu5] at lA5
    clear gfz1 mfz1 rfz1 gfz2 mfz2 rfz2 gfz3 mfz3 rfz3 gfz4 mfz4 rfz4 sp5 lp5 hu5 lB5 eB5 lA4 eA4 S4 nq5 sq5
    walk_at "xxZ"
    rename_i gz1 Ggz1 mgz1 rgz1 ggz1 gz2 Ggz2 mgz2 rgz2 ggz2 gz3 Ggz3 mgz3 rgz3 ggz3 gz4 Ggz4 mgz4 rgz4 ggz4
    have lp6 : LsAll Ggz4 [.ref gz1, .ref gz2, .ref gz3] ([["a", "[", "1", "<", "2"], ["a", "<", "-", "-", "2"], ["xs", "[", "]", "<", "3"]] : List (List Str)) := (.cons (rgz4 _ _ (rgz3 _ _ (rgz2 _ _ ggz1))) (.cons (rgz4 _ _ (rgz3 _ _ ggz2)) (.cons (rgz4 _ _ ggz3) .nil)))
    have sp6 := (rgz1.trans (rgz2.trans (rgz3.trans rgz4)))
    have lB6 := LsAll.app lp6 (lA5.same sp6)
    refine o_addL (sp6 _ _ eA5) ggz4 (lz1000 (by rw [lA5.len]; show (19 : Nat) + 3 ≤ 100000; decide)) fun q6 H6 nq6 sq6 eB6 => ?_
    have S6 : Same H H6 := (S5.trans sp6).trans sq6
    obtain ⟨u6, hu6⟩ : ∃ u : List V, u = u5 ++ [.ref gz1, .ref gz2, .ref gz3] := ⟨_, rfl⟩
    have eA6 : H6 q6 = some (.lst u6) := by rw [hu6]; exact eB6
    have lA6 := lB6.same sq6
    rw [← hu6] at lA6
    clear ggz1 mgz1 rgz1 ggz2 mgz2 rgz2 ggz3 mgz3 rgz3 ggz4 mgz4 rgz4 sp6 lp6 hu6 lB6 eB6 lA5 eA5 S5 nq6 sq6
    walk_at "xxZ"
    rename_i hz1 Ghz1 mhz1 rhz1 ghz1 hz2 Ghz2 mhz2 rhz2 ghz2 hz3 Ghz3 mhz3 rhz3 ghz3
    have lp7 : LsAll Ghz3 [.ref hz1, .ref hz2] ([["(", "a", "<", "2", ")"], ["a", "<", "3", "<", "4"]] : List (List Str)) := (.cons (rhz3 _ _ (rhz2 _ _ ghz1)) (.cons (rhz3 _ _ ghz2) .nil))
    have sp7 := (rhz1.trans (rhz2.trans rhz3))
    have lB7 := LsAll.app lp7 (lA6.same sp7)
    refine o_addL (sp7 _ _ eA6) ghz3 (lz1000 (by rw [lA6.len]; show (22 : Nat) + 2 ≤ 100000; decide)) fun q7 H7 nq7 sq7 eB7 => ?_
    have S7 : Same H H7 := (S6.trans sp7).trans sq7
    obtain ⟨u7, hu7⟩ : ∃ u : List V, u = u6 ++ [.ref hz1, .ref hz2] := ⟨_, rfl⟩
    have eA7 : H7 q7 = some (.lst u7) := by rw [hu7]; exact eB7
    have lA7 := lB7.same sq7
    rw [← hu7] at lA7
    clear ghz1 mhz1 rhz1 ghz2 mhz2 rhz2 ghz3 mhz3 rhz3 sp7 lp7 hu7 lB7 eB7 lA6 eA6 S6 nq7 sq7
    have hTE : LsAll H7 u7 TESTS := lA7
    clear lA7
    have hh7 := hh.same S7
    have nq : q7 ≠ a := fun z => by
      obtain ⟨n, ds, e, _, _⟩ := hh7
      rw [z, e] at eA7
      cases eA7
      cases hTE with
      | cons _ r => cases r
    have hlen : u7.length = 24 := hTE.len
    walk_at "xxZ"
    refine ⟨a, d, _, rfl, hh7, by omega, fun m H8 m0 m1 c8 hh8 => ?_⟩
    obtain ⟨m, rfl⟩ := nat_of m0
    have e8 := c8.at eA7 nq
    have ls8 := hTE.keep hh7 c8.keep
    walk_at "xxZ"
    refine c_strI (by omega) ?_
    walk_at "xxZ"
    rename_i q9 H9 n9 s9 e9
    have hh9 := hh8.same s9
    have nn9 := hh8.new n9
    refine b_lenL (lst_of (s9 _ _ e8)) ?_
    walk_at "xxZ"
    rw [hlen]
    refine ⟨a, d, _, rfl, hh9, by omega, fun r H10 r0 r1 c10 hh10 => ?_⟩
    obtain ⟨r, rfl⟩ := nat_of r0
    have hr : r < TESTS.length := by
      have : TESTS.length = 24 := rfl
      omega
    have ht : TESTS[r]? = some TESTS[r] := List.getElem?_eq_getElem hr
    have hm : TESTS[r] ∈ TESTS := List.getElem_mem hr
    generalize TESTS[r] = t at ht hm
    obtain ⟨b, eb, et⟩ := ((ls8.same s9).keep hh9 c10.keep).get ht
    refine o_ixL (lst_of (c10.at (s9 _ _ e8) nq)) (atI_nat eb) ?_
    have tl8 : ∀ t ∈ TESTS, t.length ≤ 20 := by decide +kernel
    refine o_addL (c10.at e9 nn9.1.symm) et (lz1000 (by rw [List.length_map]; have := tl8 t hm; show 3 + _ ≤ _; omega)) fun q11 H11 n11 s11 e11 => ?_
    refine q q11 t m H11 hm (by omega) ?_ ((((S7.keep.trans c8.keep).trans s9.keep).trans c10.keep).trans s11.keep) (hh10.same s11)
    rw [e11, show Str.ofString (toString ((m : Nat) : Int)) = numS m from toStr_nat (by omega)]
    rfl
end
end K23
-- WIDE
namespace K23
open PySem PySem.Spec PyProof.Rows L2 Wy WN WQ WS WC WE WM W3 W4 W5 W7 W8 W9 W10 W23 WXD

theorem o_rep {H : Hp} {Q : VK} {l : Addr} {xs : List V} {k : Nat} (e : H l = some (.lst xs)) (hk : k ≤ 1000) (hx : xs.length ≤ 100) (h : ∀ p H2, H p = none → Same H H2 → H2 p = some (.lst (List.replicate k xs).flatten) → Q (.ref p) H2) : rRep (.ref l) (.int (k : Int)) H Q := by
  refine ⟨l, k, xs, rfl, rfl, e, by omega, by omega, ?_, ?_⟩
  · rw [sizeLine_eq, Int.toNat_natCast]
    have : xs.length * k ≤ 100 * 1000 := Nat.mul_le_mul hx hk
    omega
  · rw [Int.toNat_natCast]
    exact new_same h
theorem cut_but (xs : List V) : cutV xs none (some (-1)) = xs.dropLast := by
  unfold cutV
  rw [HT.sIx_none, List.drop_zero, List.dropLast_eq_take]
  have e : HT.sIx xs.length xs.length (some (-1)) = xs.length - 1 := by
    show (if (-1 : Int) < 0 then ((-1 : Int) + (xs.length : Int)).toNat else min (-1 : Int).toNat xs.length) = _
    rw [if_pos (by decide)]
    omega
  rw [e, Nat.sub_zero]
theorem pick {l : List Str} {r : Int} (h0 : 0 ≤ r) (h1 : r < l.length) : ∃ y, atI (l.map V.str) r = some (.str y) ∧ y ∈ l := by
  obtain ⟨j, rfl⟩ := nat_of h0
  have hj : j < l.length := by omega
  exact ⟨l[j], atI_nat (by rw [List.getElem?_map, List.getElem?_eq_getElem hj]; rfl), List.getElem_mem hj⟩
/-- words that are no place's, or hold a strange sign -/
structure NearOk (ws : List Str) : Prop where
  len : ws.length ≤ 200
  short : ∀ y ∈ ws, y.length ≤ 100
  bad : (Nw 150 ws ∧ plF ws) ∨ ∃ y ∈ ws, ∃ c ∈ tl y, ¬ OKD c
theorem NearOk.of {n : Nat} {ws : List Str} (h : Nw n ws) (hn : n ≤ 150) (hb : plF ws) : NearOk ws := ⟨by have := h.len; omega, fun y hy => Nat.le_trans (h.wd y hy).2 (by decide), .inl ⟨h.mono hn, hb⟩⟩
theorem NearOk.read {ws : List Str} {z : Str} (h : NearOk ws) (s : Spaced ws z) : placeO z = none ∧ ∀ us, wordsW z = some us → SmallW us := by
  obtain ⟨k, g, e, hg, gp⟩ := s.ex
  rcases h.bad with ⟨nw, hb⟩ | ⟨y, hy, c, hc, ho⟩
  · have hw := words_spaced e (fun p hp => (nw.wd p.1 (by rw [← hg]; exact List.mem_map_of_mem hp)).1) gp (by rw [hg]; exact nw.nj)
    rw [hg] at hw
    refine ⟨place_bad hw hb, fun us hu => ?_⟩
    rw [hw] at hu
    cases hu
    exact Nw.small nw (by decide)
  · have hw : wordsW z = none := words_bad2 ⟨c, by
      rw [← hg] at hy
      obtain ⟨p, hp, rfl⟩ := List.mem_map.mp hy
      rw [e]
      exact List.mem_append_right _ (glueS_mem hp hc), ho⟩
    refine ⟨place_none hw, fun us hu => ?_⟩
    rw [hw] at hu
    cases hu
abbrev ODD : List Str := ["#", "R", ".", ";", "x_", "*", "\t", "\n"]
theorem odd_ok : ∀ y ∈ ODD, y.length ≤ 100 ∧ ∃ c ∈ tl y, ¬ (c ∈ tl LET ∨ c ∈ tl DIG ∨ c ∈ tl SHO ∨ c = 32 ∨ c = 33) := by decide +kernel
theorem word_sorts (l : List Str) (h : l.all (fun w => wdB w && decide (w.length ≤ 14) && plB w) = true) {w : Str} (hw : w ∈ l) : (Wd w ∧ w.length ≤ 14) ∧ plB w = true := by
  have := List.all_eq_true.mp h w hw
  rw [Bool.and_eq_true, Bool.and_eq_true] at this
  exact ⟨⟨wdB_ok this.1.1, of_decide_eq_true this.1.2⟩, this.2⟩
theorem MORE6 {x : Str} (h : x ∈ (["7", "x", "then", "]", ":", "row"] : List Str)) : ((Wd x ∧ x.length ≤ 14) ∧ plB x = true) ∧ (x ∈ MORE ∨ x = TH) := by
  refine ⟨word_sorts _ (by decide +kernel) h, ?_⟩
  have : ∀ x ∈ (["7", "x", "then", "]", ":", "row"] : List Str), x ∈ MORE ∨ x = TH := by decide +kernel
  exact this x h
theorem sec_ok {x : Str} (h : x ∈ SEC) : (Wd x ∧ x.length ≤ 14) ∧ plB x = true := word_sorts _ (by decide +kernel) h
theorem fir_ok {x : Str} (h : x ∈ FIR) : (Wd x ∧ x.length ≤ 14) ∧ plB x = true := word_sorts _ (by decide +kernel) h
theorem co_ok : (Wd CO ∧ CO.length ≤ 14) ∧ plB CO = true := word_sorts [CO] (by decide +kernel) List.mem_cons_self
theorem whenW_nw : ∀ t ∈ TESTS, ∀ m, m < 9 → nwB 20 (whenW m t) = true := by decide +kernel
theorem flt_nw : ∀ x ∈ FLT, nwB 5 ["fault", "5", x] = true := by decide +kernel
theorem many_nw : nwB 9 MANY = true := by decide +kernel
abbrev TRN : List (List Str) := [["x"], ["2", "3"], ["-", "2"]]
theorem trn_nw : ∀ t ∈ TRN, nwB 5 ("turn" :: "9" :: t) = true := by decide +kernel
theorem place_dig {ps : List At} (h : ∀ a ∈ ps, a.ok) : ∀ x ∈ plWs ps, isG x → x.length ≤ 10 := by
  have one : ∀ a : At, a.ok → ∀ x ∈ a.ws, isG x → x.length ≤ 10 := fun a ha x hx hg => by
    rcases at_mem ha x hx with g | g | g | g
    · exact absurd hg (name_noG g)
    · exact (number_parts g).2.1
    · have key : ∀ w ∈ (["+", "-", "[", "]", ":", "row", "yes", "no", "turn", "fault", "when", "check"] : List Str), w.length ≤ 10 := by decide +kernel
      exact key x g
    · exact absurd hg (sig_noG g)
  induction ps with
  | nil => exact fun x hx => by cases hx
  | cons a r ih =>
    intro x hx hg
    cases r with
    | nil => exact one a (h a List.mem_cons_self) x hx hg
    | cons b r =>
      have hx : x ∈ a.ws ++ TH :: plWs (b :: r) := hx
      rcases List.mem_append.mp hx with hx | hx
      · exact one a (h a List.mem_cons_self) x hx hg
      · rcases List.mem_cons.mp hx with rfl | hx
        · exact absurd hg th_noG
        · exact ih (fun y hy => h y (List.mem_cons_of_mem _ hy)) x hx hg
end K23
-- WIDE
namespace K23
open PySem PySem.Spec PyProof.Rows L2 Wy WN WQ WS WC WE WM W3 W4 W5 W7 W8 W9 W10 W23 WXD

theorem strsTp {H : Hp} : ∀ W : List Str, TpAll H (W.map V.str) (W.map fun x => PyData.str x)
  | [] => .nil
  | x :: r => .cons (.str x) (strsTp r)
section
variable {P : Program} {w : World} {K : PySem.W.Frag} {mg : Str → Option Value} {base : Heap}
def spNear : Sp := fun vs H Q _ => ∃ (h d p : Addr) (ps : List At), vs = [.ref h, .ref p] ∧ HandAt H h d ∧ H p = some (.lst ((plWs ps).map V.str)) ∧ ps ≠ [] ∧ (∀ a ∈ ps, a.ok) ∧ ps.length ≤ 3 ∧
  ∀ p' ws H', NearOk ws → H' p' = some (.lst (ws.map V.str)) → Keep h H H' → HandAt H' h d → Q (.ref p') H'
theorem k_law_near (T : Tx w K mg) : C8.Cal P w K mg base 3 "_law_near" spNear [] := by
  refine cal_of (N := n_law_near) T.d_law_near sc_law_near (fun _ _ F => F.bindsN fun _ _ _ _ _ _ us hl => match us, hl with | [_, _], _ => rfl) (fun vs H Q E h => ?_) (fun f cdv A outer s H vs Q E hr h => ?_)
  · obtain ⟨a, d, p, ps, rfl, _⟩ := h
    rfl
  · obtain ⟨a, d, p, ps, rfl, hh, e, hne, ho, hl3, q⟩ := h
    have pa := list_ne_hand hh e
    have nw := place_nw ho
    have nw63 : Nw 63 (plWs ps) := nw.mono (by omega)
    have hlen : (plWs ps).length ≤ 63 := nw63.len
    obtain ⟨a0, w0, w1, t0, r0, fst, _⟩ := first_of hne ho
    have hpos : 2 ≤ (plWs ps).length := by
      rw [fst.all, List.length_cons, List.length_cons]
      omega
    refine ⟨_, (pss_cons (ps_asg (C8.pe_c (k_law_take T) hr (by first | decide | omega) (by rfl) (pa_cons (pv 0) (pa_cons pe_int pa_nil))) (pg_name (i := 2) sc_law_near.nd rfl (Or.inl rfl))) (pss_cons (ps_asg (C8.pe_c (k_law_take T) hr (by first | decide | omega) (by rfl) (pa_cons (pv 0) (pa_cons (pe_callB (call_len2 : CallR _ _ (rLn K)) (by rfl) T.z_len (by decide +kernel) (pa_cons (pv 1) pa_nil)) pa_nil))) (pg_name (i := 3) sc_law_near.nd rfl (Or.inl rfl))) (pss_cons (ps_if (pt_cmpR (op_eq2 hr.units : OpR _ _ (rEq2 K)) (pv 2) pe_int (nomark _)) (pss_one (ps_ret (pe_slice (sl_2 : SlR _ (rSl2 K)) (pv 1) po_none (po_some (pe_un un_neg pe_int))))) pss_nil) (pss_cons (ps_if (pt_cmpR (op_eq2 hr.units : OpR _ _ (rEq2 K)) (pv 2) pe_int (nomark _)) (pss_one (ps_ret (pe_op op_add3 (pv 1) (pe_lst (pa_cons (pe_ix (ix_seq : IxR _ (rIx K)) (pe_lst (pa_cons pe_str (pa_cons pe_str (pa_cons pe_str (pa_cons pe_str (pa_cons pe_str (pa_cons pe_str pa_nil))))))) (C8.pe_c (k_law_take T) hr (by first | decide | omega) (by rfl) (pa_cons (pv 0) (pa_cons pe_int pa_nil))) (fun _ _ => rfl)) pa_nil))))) pss_nil) (pss_cons (ps_if (pt_cmpR (op_eq2 hr.units : OpR _ _ (rEq2 K)) (pv 2) pe_int (nomark _)) (pss_one (ps_ret (pe_op op_add3 (pe_lst (pa_cons pe_str pa_nil)) (pv 1)))) pss_nil) (pss_cons (ps_if (pt_cmpR (op_eq2 hr.units : OpR _ _ (rEq2 K)) (pv 2) pe_int (nomark _)) (pss_one (ps_ret (C8.pe_c (k_law_wrong_number T) hr (by first | decide | omega) (by rfl) (pa_cons (pv 0) (pa_cons (pv 1) pa_nil))))) pss_nil) (pss_cons (ps_if (pt_cmpR (op_eq2 hr.units : OpR _ _ (rEq2 K)) (pv 2) pe_int (nomark _)) (pss_one (ps_ret (pe_op op_add3 (pe_lst (pa_cons (pe_ix (ix_seq : IxR _ (rIx K)) (pv 1) pe_int (fun _ _ => rfl)) (pa_cons (pe_ix (ix_seq : IxR _ (rIx K)) (pe_lst (pa_cons pe_str (pa_cons pe_str (pa_cons pe_str (pa_cons pe_str (pa_cons pe_str (pa_cons pe_str pa_nil))))))) (C8.pe_c (k_law_take T) hr (by first | decide | omega) (by rfl) (pa_cons (pv 0) (pa_cons pe_int pa_nil))) (fun _ _ => rfl)) pa_nil))) (pe_slice (sl_2 : SlR _ (rSl2 K)) (pv 1) (po_some pe_int) po_none)))) pss_nil) (pss_cons (ps_if (pt_cmpR (op_eq2 hr.units : OpR _ _ (rEq2 K)) (pv 2) pe_int (nomark _)) (pss_one (ps_ret (pe_op op_add3 (pe_op op_add3 (pe_slice (sl_2 : SlR _ (rSl2 K)) (pv 1) po_none (po_some (pv 3))) (pe_lst (pa_cons (pe_ix (ix_seq : IxR _ (rIx K)) (pe_lst (pa_cons pe_str (pa_cons pe_str (pa_cons pe_str (pa_cons pe_str (pa_cons pe_str (pa_cons pe_str (pa_cons pe_str (pa_cons pe_str pa_nil))))))))) (C8.pe_c (k_law_take T) hr (by first | decide | omega) (by rfl) (pa_cons (pv 0) (pa_cons pe_int pa_nil))) (fun _ _ => rfl)) pa_nil))) (pe_slice (sl_2 : SlR _ (rSl2 K)) (pv 1) (po_some (pv 3)) po_none)))) pss_nil) (pss_cons (ps_if (pt_cmpR (op_eq2 hr.units : OpR _ _ (rEq2 K)) (pv 2) pe_int (nomark _)) (pss_one (ps_ret (pe_lst pa_nil))) pss_nil) (pss_cons (ps_if (pt_cmpR (op_eq2 hr.units : OpR _ _ (rEq2 K)) (pv 2) pe_int (nomark _)) (pss_one (ps_ret (pe_op op_add3 (pe_lst (pa_cons (pe_ix (ix_seq : IxR _ (rIx K)) (pe_lst (pa_cons pe_str (pa_cons pe_str (pa_cons pe_str (pa_cons pe_str (pa_cons pe_str (pa_cons pe_str (pa_cons pe_str pa_nil)))))))) (C8.pe_c (k_law_take T) hr (by first | decide | omega) (by rfl) (pa_cons (pv 0) (pa_cons pe_int pa_nil))) (fun _ _ => rfl)) pa_nil)) (pe_slice (sl_2 : SlR _ (rSl2 K)) (pv 1) (po_some pe_int) po_none)))) pss_nil) (pss_cons (ps_if (PW.pt (pw_and (pt_cmpR (op_eq2 hr.units : OpR _ _ (rEq2 K)) (pv 2) pe_int (nomark _)) (pw_and1 (pt_cmpR (op_in2 : OpR _ _ (rIn2 K)) pe_str (pv 1) (by rfl))))) (pss_one (ps_ret (pe_lc (own := [("word", 4)]) (g := gName 4) (tt := tTest _) (by rfl) sc_law_near.nd (pi_list (pv 1) : PI _ _ _ (iList K _)) (blkOk_by (own := [("word", 4)]) (N := n_law_near) (sc := defScope s_law_near) (by decide +kernel)) (fun _ _ _ _ _ => pg_name (i := 4) sc_law_near.nd rfl (Or.inl rfl)) (fun _ _ _ _ _ => (pts_one (pt_cmpR (op_ne2 hr.units : OpR _ _ (rNe2 K)) (pv 4) pe_str (nomark _)))) (fun _ _ _ _ _ => (pv 4))))) pss_nil) (pss_cons (ps_if (pt_cmpR (op_eq2 hr.units : OpR _ _ (rEq2 K)) (pv 2) pe_int (nomark _)) (pss_one (ps_ret (pe_op op_add3 (pe_op op_add3 (pe_slice (sl_2 : SlR _ (rSl2 K)) (pv 1) po_none (po_some pe_int)) (pe_lst (pa_cons pe_str pa_nil))) (pe_slice (sl_2 : SlR _ (rSl2 K)) (pv 1) (po_some pe_int) po_none)))) pss_nil) (pss_cons (ps_if (pt_cmpR (op_eq2 hr.units : OpR _ _ (rEq2 K)) (pv 2) pe_int (nomark _)) (pss_one (ps_ret (pe_lst (pa_cons pe_str (pa_cons pe_str (pa_cons (pe_ix (ix_seq : IxR _ (rIx K)) (pe_lst (pa_cons pe_str (pa_cons pe_str (pa_cons pe_str (pa_cons pe_str (pa_cons pe_str (pa_cons pe_str pa_nil))))))) (C8.pe_c (k_law_take T) hr (by first | decide | omega) (by rfl) (pa_cons (pv 0) (pa_cons pe_int pa_nil))) (fun _ _ => rfl)) pa_nil)))))) pss_nil) (pss_cons (ps_if (pt_cmpR (op_eq2 hr.units : OpR _ _ (rEq2 K)) (pv 2) pe_int (nomark _)) (pss_one (ps_ret (pe_op op_add3 (C8.pe_c (k_law_wrong_when T) hr (by first | decide | omega) (by rfl) (pa_cons (pv 0) pa_nil)) (pe_ix (ix_seq : IxR _ (rIx K)) (pe_lst (pa_cons (pe_op op_add3 (pe_lst (pa_cons pe_str pa_nil)) (pv 1)) (pa_cons (pe_lst pa_nil) pa_nil))) (C8.pe_c (k_law_take T) hr (by first | decide | omega) (by rfl) (pa_cons (pv 0) (pa_cons pe_int pa_nil))) (fun _ _ => rfl))))) pss_nil) (pss_cons (ps_if (pt_cmpR (op_eq2 hr.units : OpR _ _ (rEq2 K)) (pv 2) pe_int (nomark _)) (pss_one (ps_ret (pe_op op_add3 (pv 1) (pe_op op_rep (pe_lst (pa_cons pe_str (pa_cons pe_str (pa_cons pe_str pa_nil)))) pe_int)))) pss_nil) (pss_cons (ps_if (pt_cmpR (op_eq2 hr.units : OpR _ _ (rEq2 K)) (pv 2) pe_int (nomark _)) (pss_one (ps_ret (pe_op op_add3 (pe_lst (pa_cons pe_str (pa_cons pe_str pa_nil))) (pe_ix (ix_seq : IxR _ (rIx K)) (pe_lst (pa_cons (pe_lst (pa_cons pe_str pa_nil)) (pa_cons (pe_lst (pa_cons pe_str (pa_cons pe_str pa_nil))) (pa_cons (pe_lst (pa_cons pe_str (pa_cons pe_str pa_nil))) (pa_cons (pe_op op_add3 (pe_lst (pa_cons pe_str pa_nil)) (pv 1)) pa_nil))))) (C8.pe_c (k_law_take T) hr (by first | decide | omega) (by rfl) (pa_cons (pv 0) (pa_cons pe_int pa_nil))) (fun _ _ => rfl))))) pss_nil) (pss_one (ps_ret (C8.pe_c (k_law_wrong_when T) hr (by first | decide | omega) (by rfl) (pa_cons (pv 0) pa_nil)))))))))))))))))))), ?_⟩
    walk_at "xxZ"
    refine ⟨a, d, _, rfl, hh, by omega, fun kd H1 k0 k1 c1 hh1 => ?_⟩
    have e1 := c1.at e pa
    walk_at "xxZ"
    refine b_lenL (lst_of e1) ?_
    rw [List.length_map]
    walk_at "xxZ"
    refine ⟨a, d, _, rfl, hh1, by omega, fun at_ H2 at0 at1 c2 hh2 => ?_⟩
    obtain ⟨i, rfl⟩ := nat_of at0
    have e2 := c2.at e1 pa
    have k2 : Keep a H H2 := c1.keep.trans c2.keep
    clear hh hh1 c1 c2 e1 e
    generalize hW : plWs ps = W at e2 nw nw63 hlen fst hpos at1
    walk_at "xxZ"
    -- 0
    refine iteI (fun c => ?_) (fun c => ?_)
    · walk_at "xxZ"
      rename_i q3 H3 n3 s3 e3
      rw [cut_but] at e3
      exact q q3 W.dropLast H3 (.of nw63.dropLast (by decide) (by rw [← hW]; exact near_cut hne ho)) (by rw [e3, List.map_dropLast]) (k2.trans s3.keep) (hh2.same s3)
    walk_at "xxZ"
    -- 1
    refine iteI (fun c => ?_) (fun c => ?_)
    · walk_at "xxZ"
      rename_i q3 H3 n3 s3 e3
      have hh3 := hh2.same s3
      refine ⟨a, d, _, rfl, hh3, by omega, fun r H4 ra rb c4 hh4 => ?_⟩
      obtain ⟨x, g, hx⟩ := pick (l := ["7", "x", "then", "]", ":", "row"]) ra rb
      refine o_ixL (lst_of (c4.at e3 (hh2.new n3).1.symm)) g ?_
      walk_at "xxZ"
      rename_i q5 H5 n5 s5 e5
      refine o_addL (s5 _ _ (c4.at (s3 _ _ e2) pa)) e5 (lz1000 (by rw [List.length_map]; show _ + 1 ≤ _; omega)) fun q6 H6 n6 s6 e6 => ?_
      obtain ⟨⟨x1, x2⟩, x3⟩ := MORE6 hx
      exact q q6 (W ++ [x]) H6 (.of (nw63.glue x1 x2 .nil) (by decide) (by rw [← hW]; exact near_more x3 hne ho)) (by rw [e6, List.map_append]; rfl) ((((k2.trans s3.keep).trans c4.keep).trans s5.keep).trans s6.keep) ((hh4.same s5).same s6)
    walk_at "xxZ"
    -- 2
    refine iteI (fun c => ?_) (fun c => ?_)
    · walk_at "xxZ"
      rename_i q3 H3 n3 s3 e3
      refine o_addL e3 (s3 _ _ e2) (lz1000 (by rw [List.length_map]; show 1 + _ ≤ _; omega)) fun q4 H4 n4 s4 e4 => ?_
      exact q q4 (TH :: W) H4 (.of (Nw.nil.glue (a := []) th_sort.1 th_sort.2 nw63) (by decide) (near_ahead _)) (by rw [e4]; rfl) ((k2.trans s3.keep).trans s4.keep) ((hh2.same s3).same s4)
    walk_at "xxZ"
    -- 3
    refine iteI (fun c => ?_) (fun c => ?_)
    · walk_at "xxZ"
      refine ⟨a, d, p, W, 63, rfl, hh2, e2, nw63, by decide, ⟨1, w1, by rw [fst.all]; rfl, num_isG fst.num⟩, by rw [← hW]; exact place_dig ho, fun p' i x D H3 hx hg hD lD e3 k3 hh3 => ?_⟩
      have hi := (List.getElem?_eq_some_iff.mp hx).1
      exact q p' (W.set i D) H3 (.of (Nw.set nw63 hi hD.g lD) (by decide) (by rw [← hW] at hx ⊢; exact near_num hg hD ho hx)) e3 (k2.trans k3) hh3
    walk_at "xxZ"
    -- 4
    have hd2 : (W.map V.str).drop 2 = (t0 ++ r0).map V.str := by rw [fst.all]; rfl
    have hd1 : (W.map V.str).drop 1 = (w1 :: (t0 ++ r0)).map V.str := by rw [fst.all]; rfl
    have nwt : Nw 63 (t0 ++ r0) := Nw.suf (a := [w0, w1]) (by rw [← show W = [w0, w1] ++ (t0 ++ r0) from fst.all]; exact nw63)
    have nw1 : Nw 63 (w1 :: (t0 ++ r0)) := Nw.suf (a := [w0]) (by rw [← show W = [w0] ++ (w1 :: (t0 ++ r0)) from fst.all]; exact nw63)
    have nw0 : Nw 63 [w0] := Nw.pre (b := w1 :: (t0 ++ r0)) (by rw [← show W = [w0] ++ (w1 :: (t0 ++ r0)) from fst.all]; exact nw63)
    have nw01 : Nw 63 [w0, w1] := Nw.pre (b := t0 ++ r0) (by rw [← show W = [w0, w1] ++ (t0 ++ r0) from fst.all]; exact nw63)
    have lt2 : (t0 ++ r0).length ≤ 63 := nwt.len
    have hw0 : (W.map V.str)[0]? = some (.str w0) := by rw [fst.all]; rfl
    refine iteI (fun c => ?_) (fun c => ?_)
    · walk_at "xxZ"
      refine o_ixL (lst_of e2) (atI_nat (j := 0) hw0) ?_
      walk_at "xxZ"
      rename_i q3 H3 n3 s3 e3
      have hh3 := hh2.same s3
      refine ⟨a, d, _, rfl, hh3, by omega, fun r H4 ra rb c4 hh4 => ?_⟩
      obtain ⟨x, g, hx⟩ := pick (l := SEC) ra rb
      refine o_ixL (lst_of (c4.at e3 (hh2.new n3).1.symm)) g ?_
      walk_at "xxZ"
      rename_i q5 H5 n5 s5 e5 q6 H6 n6 s6 e6
      have e6 : H6 q6 = some (.lst (cutV (W.map V.str) (some ((2 : Nat) : Int)) none)) := e6
      rw [cut_suf, hd2] at e6
      refine o_addL (s6 _ _ e5) e6 (lz1000 (by rw [List.length_map]; show 2 + _ ≤ _; omega)) fun q7 H7 n7 s7 e7 => ?_
      have S := s5.trans (s6.trans s7)
      obtain ⟨x1, x2⟩ := sec_ok hx
      exact q q7 (w0 :: x :: (t0 ++ r0)) H7 (.of (nw0.glue (a := [w0]) x1 x2 nwt) (by decide) (near_second fst hx)) (by rw [e7]; rfl) ((((k2.trans s3.keep).trans c4.keep)).trans S.keep) (hh4.same S)
    walk_at "xxZ"
    -- 5
    refine iteI (fun c => ?_) (fun c => ?_)
    · walk_at "xxZ"
      rename_i q3 H3 n3 s3 e3 q4 H4 n4 s4 e4
      rw [cut_pre] at e3
      have hh4 := (hh2.same s3).same s4
      refine ⟨a, d, _, rfl, hh4, by omega, fun r H5 ra rb c5 hh5 => ?_⟩
      obtain ⟨x, g, hx⟩ := pick (l := ODD) ra rb
      have nn4 := (hh2.same s3).new n4
      have nn3 := hh2.new n3
      refine o_ixL (lst_of (c5.at e4 nn4.1.symm)) g ?_
      walk_at "xxZ"
      rename_i q6 H6 n6 s6 e6
      have e36 := s6 _ _ (c5.at (s4 _ _ e3) nn3.1.symm)
      refine o_addL e36 e6 (lz1000 (by have := List.length_take_le i (W.map V.str); show (List.take _ _).length + 1 ≤ _; omega)) fun q7 H7 n7 s7 e7 => ?_
      have e27 := s7 _ _ (s6 _ _ (c5.at (s4 _ _ (s3 _ _ e2)) pa))
      walk_at "xxZ"
      rename_i q8 H8 n8 s8 e8
      rw [cut_suf] at e8
      refine o_addL (s8 _ _ e7) e8 (lz1000 (by
        have := List.length_take_le i (W.map V.str)
        rw [List.length_append, List.length_drop, List.length_map]
        show (List.take _ _).length + 1 + _ ≤ _
        omega)) fun q9 H9 n9 s9 e9 => ?_
      have S := s6.trans (s7.trans (s8.trans s9))
      obtain ⟨y1, cc, y2, y3⟩ := odd_ok x hx
      refine q q9 (W.take i ++ x :: W.drop i) H9 ⟨?_, fun y hy => ?_, .inr ⟨x, by simp, cc, y2, y3⟩⟩ ?_ (((k2.trans s3.keep).trans s4.keep).trans c5.keep |>.trans S.keep) (hh5.same S)
      · rw [List.length_append, List.length_cons, List.length_take, List.length_drop]
        omega
      · rcases List.mem_append.mp hy with hy | hy
        · exact Nat.le_trans (nw63.wd y (List.mem_of_mem_take hy)).2 (by decide)
        · rcases List.mem_cons.mp hy with rfl | hy
          · exact y1
          · exact Nat.le_trans (nw63.wd y (List.mem_of_mem_drop hy)).2 (by decide)
      · rw [e9, List.map_append, List.map_cons, List.map_take, List.map_drop, List.append_assoc]
        rfl
    walk_at "xxZ"
    -- 6
    refine iteI (fun c => ?_) (fun c => ?_)
    · walk_at "xxZ"
      rename_i q3 H3 n3 s3 e3
      exact q q3 [] H3 (.of (.nil) (by decide) plF_nil) e3 (k2.trans s3.keep) (hh2.same s3)
    walk_at "xxZ"
    -- 7
    refine iteI (fun c => ?_) (fun c => ?_)
    · walk_at "xxZ"
      rename_i q3 H3 n3 s3 e3
      have hh3 := hh2.same s3
      refine ⟨a, d, _, rfl, hh3, by omega, fun r H4 ra rb c4 hh4 => ?_⟩
      obtain ⟨x, g, hx⟩ := pick (l := FIR) ra rb
      refine o_ixL (lst_of (c4.at e3 (hh2.new n3).1.symm)) g ?_
      walk_at "xxZ"
      rename_i q5 H5 n5 s5 e5 q6 H6 n6 s6 e6
      have e6 : H6 q6 = some (.lst (cutV (W.map V.str) (some ((1 : Nat) : Int)) none)) := e6
      rw [cut_suf, hd1] at e6
      refine o_addL (s6 _ _ e5) e6 (lz1000 (by simp only [List.length_map, List.length_cons, List.length_nil]; omega)) fun q7 H7 n7 s7 e7 => ?_
      have S := s5.trans (s6.trans s7)
      obtain ⟨x1, x2⟩ := fir_ok hx
      exact q q7 (x :: w1 :: (t0 ++ r0)) H7 (.of (Nw.nil.glue (a := []) x1 x2 nw1) (by decide) (near_first fst hx)) (by rw [e7]; rfl) ((((k2.trans s3.keep).trans c4.keep)).trans S.keep) (hh4.same S)
    walk_at "xxZ"
    -- 8
    have inW : inV (V.str (Str.ofString ":")) (W.map V.str) = decide (CO ∈ W) := inV_list (l := W)
    have flatW : (W.map V.str).all flatV = true := by
      rw [List.all_map, List.all_eq_true]
      exact fun _ _ => rfl
    have rest8 : ∀ {D : Prop}, D → D := fun h => h
    by_cases c8 : kd = 8
    · subst c8
      refine iteTT (decide_eq_true rfl) ?_
      walk_at "xxZ"
      refine o_inL (lst_of e2) rfl flatW ?_
      rw [inW]
      walk_at "xxZ"
      refine iteD (fun c => ?_) (fun c => ?_)
      · have hc : CO ∈ W := c
        walk_at "xxZ"
        refine c_sel (p := noCo) (F := fun x => PyData.str x) (G := fun x => PyData.str x) (.inl ⟨rfl, lst_of e2⟩) (strsTp W) (by omega) (fun x => rfl) (fun x u H3 N hx t s3 hN => ?_) (fun x u H3 N hx hp t s3 hN => ?_) (fun D H3 ys nD s3 e3 t => ?_)
        · cases t
          walk_at "xxZ"
          have e : (!decide (V.str x = V.str (Str.ofString ":"))) = noCo x := by
            unfold noCo
            congr 1
            rw [decide_eq_decide]
            exact ⟨fun z => by injection z, fun z => by rw [z]⟩
          rw [e]
          exact hN H3 (Same.refl _)
        · cases t
          walk_at "xxZ"
          exact hN _ H3 (Same.refl _) (.str _)
        · have ey := strs_of t
          subst ey
          walk_at "xxZ"
          exact q D (W.filter noCo) H3 (.of (n := 63) (by rw [← hW]; exact (place_nwf ho).mono (by omega)) (by decide) (by rw [← hW] at hc ⊢; exact near_colon hne ho hc)) e3 (k2.trans s3.keep) (hh2.same s3)
      · have hc : CO ∉ W := c
        walk_at "xxZ"
        rename_i q3 H3 n3 s3 e3 q4 H4 n4 s4 e4
        have e3 : H3 q3 = some (.lst (cutV (W.map V.str) none (some ((2 : Nat) : Int)))) := e3
        have ht2 : (W.map V.str).take 2 = [w0, w1].map V.str := by rw [fst.all]; rfl
        rw [cut_pre, ht2] at e3
        refine o_addL (s4 _ _ e3) e4 (lz1000 (by show 2 + 1 ≤ _; omega)) fun q5 H5 n5 s5 e5 => ?_
        walk_at "xxZ"
        rename_i q6 H6 n6 s6 e6
        have e6 : H6 q6 = some (.lst (cutV (W.map V.str) (some ((2 : Nat) : Int)) none)) := e6
        rw [cut_suf, hd2] at e6
        refine o_addL (s6 _ _ e5) e6 (lz1000 (by rw [List.length_map]; show 3 + _ ≤ _; omega)) fun q7 H7 n7 s7 e7 => ?_
        have S := s3.trans (s4.trans (s5.trans (s6.trans s7)))
        exact q q7 (w0 :: w1 :: CO :: (t0 ++ r0)) H7 (.of (nw01.glue (a := [w0, w1]) co_ok.1 co_ok.2 nwt) (by decide) (by rw [← hW] at fst hc; exact near_colon2 fst hc)) (by rw [e7]; rfl) (k2.trans S.keep) (hh2.same S)
    refine iteFF (decide_eq_false fun z => c8 (by injection z)) ?_
    walk_at "xxZ"
    refine iteFF (decide_eq_false fun z => c8 (by injection z)) ?_
    walk_at "xxZ"
    -- 9
    refine iteI (fun c => ?_) (fun c => ?_)
    · walk_at "xxZ"
      rename_i q3 H3 n3 s3 e3
      have hh3 := hh2.same s3
      refine ⟨a, d, _, rfl, hh3, by omega, fun r H4 ra rb c4 hh4 => ?_⟩
      obtain ⟨x, g, hx⟩ := pick (l := FLT) ra rb
      refine o_ixL (lst_of (c4.at e3 (hh2.new n3).1.symm)) g ?_
      walk_at "xxZ"
      rename_i q5 H5 n5 s5 e5
      exact q q5 ["fault", "5", x] H5 (.of (nwB_ok (flt_nw x hx)) (by decide) (plF_any (near_fault x hx))) e5 (((k2.trans s3.keep).trans c4.keep).trans s5.keep) (hh4.same s5)
    walk_at "xxZ"
    -- 10
    refine iteI (fun c => ?_) (fun c => ?_)
    · walk_at "xxZ"
      refine ⟨a, d, rfl, hh2, fun p' t m H3 ht hm e3 k3 hh3 => ?_⟩
      have e23 := k3 _ _ pa e2
      have tl8 : ∀ t ∈ TESTS, t.length ≤ 20 := by decide +kernel
      have lt8 := tl8 t ht
      have nwt2 := nwB_ok (whenW_nw t ht m hm)
      have p'a := list_ne_hand hh3 e3
      walk_at "xxZ"
      rename_i q4 H4 n4 s4 e4
      refine o_addL e4 (s4 _ _ e23) (lz1000 (by rw [List.length_map]; show 1 + _ ≤ _; omega)) fun q5 H5 n5 s5 e5 => ?_
      walk_at "xxZ"
      rename_i q6 H6 n6 s6 e6 q7 H7 n7 s7 e7
      have S := s4.trans (s5.trans (s6.trans s7))
      have hh7 := hh3.same S
      have nn7 := (hh3.same (s4.trans (s5.trans s6))).new n7
      have nn5 := (hh3.same s4).new n5
      have nn6 := (hh3.same (s4.trans s5)).new n6
      refine ⟨a, d, _, rfl, hh7, by omega, fun r H8 ra rb c8 hh8 => ?_⟩
      have e38 := c8.at (S _ _ e3) p'a
      have k8 := ((k2.trans k3).trans S.keep).trans c8.keep
      have hr : r = 0 ∨ r = 1 := by omega
      rcases hr with rfl | rfl
      · refine o_ixL (lst_of (c8.at e7 nn7.1.symm)) (v := .ref q5) rfl ?_
        refine o_addL e38 (c8.at (s7 _ _ (s6 _ _ e5)) nn5.1.symm) (lz1000 (by rw [List.length_map]; have := nwt2.len; simp only [List.length_append, List.length_map, List.length_cons, List.length_nil]; omega)) fun q9 H9 n9 s9 e9 => ?_
        exact q q9 (whenW m t ++ (TH :: W)) H9 (.of (nwt2.glue th_sort.1 th_sort.2 nw63) (by decide) (near_when ht hm (.inr ⟨_, rfl⟩))) (by rw [e9, List.map_append]; rfl) (k8.trans s9.keep) (hh8.same s9)
      · refine o_ixL (lst_of (c8.at e7 nn7.1.symm)) (v := .ref q6) rfl ?_
        refine o_addL e38 (c8.at (s7 _ _ e6) nn6.1.symm) (lz1000 (by rw [List.length_map]; have := nwt2.len; show _ + 0 ≤ _; omega)) fun q9 H9 n9 s9 e9 => ?_
        have hb := near_when ht hm (b := []) (.inl rfl)
        rw [List.append_nil] at hb
        exact q q9 (whenW m t) H9 (.of nwt2 (by decide) hb) (by rw [e9, List.append_nil]) (k8.trans s9.keep) (hh8.same s9)
    walk_at "xxZ"
    -- 14
    refine iteI (fun c => ?_) (fun c => ?_)
    · walk_at "xxZ"
      rename_i q3 H3 n3 s3 e3
      refine o_rep (k := 3) e3 (by decide) (by decide) fun q4 H4 n4 s4 e4 => ?_
      refine o_addL (s4 _ _ (s3 _ _ e2)) e4 (lz1000 (by rw [List.length_map]; show _ + 9 ≤ _; omega)) fun q5 H5 n5 s5 e5 => ?_
      have S := s3.trans (s4.trans s5)
      have hb : plF (W ++ MANY) := by rw [← hW]; exact near_many hne ho
      exact q q5 (W ++ MANY) H5 (.of (nw63.glue th_sort.1 th_sort.2 (Nw.suf (a := [TH]) (b := ["row", "3", "then", "row", "3", "then", "row", "3"]) (nwB_ok many_nw))) (by decide) hb) (by rw [e5, List.map_append]; rfl) (k2.trans S.keep) (hh2.same S)
    walk_at "xxZ"
    -- 15
    refine iteI (fun c => ?_) (fun c => ?_)
    · walk_at "xxZ"
      rename_i q3 H3 n3 s3 e3 q4 H4 n4 s4 e4 q5 H5 n5 s5 e5 q6 H6 n6 s6 e6 q7 H7 n7 s7 e7
      have S7 := s3.trans (s4.trans (s5.trans (s6.trans s7)))
      refine o_addL e7 (S7 _ _ e2) (lz1000 (by rw [List.length_map]; show 1 + _ ≤ _; omega)) fun q8 H8 n8 s8 e8 => ?_
      walk_at "xxZ"
      rename_i q9 H9 n9 s9 e9
      have S9 := S7.trans (s8.trans s9)
      have hh9 := hh2.same S9
      refine ⟨a, d, _, rfl, hh9, by omega, fun r H10 ra rb c10 hh10 => ?_⟩
      have nn9 := (hh2.same (S7.trans s8)).new n9
      have nn3 := hh2.new n3
      have nn4 := (hh2.same s3).new n4
      have nn5 := (hh2.same (s3.trans s4)).new n5
      have nn6 := (hh2.same (s3.trans (s4.trans s5))).new n6
      have nn8 := (hh2.same S7).new n8
      have k10 := (k2.trans S9.keep).trans c10.keep
      have e3' := c10.at (s9 _ _ (s8 _ _ (s7 _ _ (s6 _ _ (s5 _ _ (s4 _ _ e3)))))) nn3.1.symm
      have small : ∀ t ∈ TRN, t.length ≤ 5 := by decide +kernel
      have fin : ∀ (b : Addr) (t : List Str), H10 b = some (.lst (t.map V.str)) → t ∈ TRN → rAdd3 (.ref q3) (.ref b) H10 Q := fun b t eb ht => by
        refine o_addL e3' eb (lz1000 (by rw [List.length_map]; have := small t ht; show 2 + _ ≤ _; omega)) fun q11 H11 n11 s11 e11 => ?_
        exact q q11 ("turn" :: "9" :: t) H11 (.of (nwB_ok (trn_nw t ht)) (by decide) (plF_any (near_turn1 t ht))) (by rw [e11]; rfl) (k10.trans s11.keep) (hh10.same s11)
      have hr : r = 0 ∨ r = 1 ∨ r = 2 ∨ r = 3 := by omega
      rcases hr with rfl | rfl | rfl | rfl
      · refine o_ixL (lst_of (c10.at e9 nn9.1.symm)) (v := .ref q4) rfl ?_
        exact fin q4 ["x"] (c10.at (s9 _ _ (s8 _ _ (s7 _ _ (s6 _ _ (s5 _ _ e4))))) nn4.1.symm) (by decide +kernel)
      · refine o_ixL (lst_of (c10.at e9 nn9.1.symm)) (v := .ref q5) rfl ?_
        exact fin q5 ["2", "3"] (c10.at (s9 _ _ (s8 _ _ (s7 _ _ (s6 _ _ e5)))) nn5.1.symm) (by decide +kernel)
      · refine o_ixL (lst_of (c10.at e9 nn9.1.symm)) (v := .ref q6) rfl ?_
        exact fin q6 ["-", "2"] (c10.at (s9 _ _ (s8 _ _ (s7 _ _ e6))) nn6.1.symm) (by decide +kernel)
      · refine o_ixL (lst_of (c10.at e9 nn9.1.symm)) (v := .ref q8) rfl ?_
        refine o_addL e3' (c10.at (s9 _ _ e8) nn8.1.symm) (lz1000 (by simp only [List.length_append, List.length_map, List.length_cons, List.length_nil]; omega)) fun q11 H11 n11 s11 e11 => ?_
        have nwT : Nw 2 ["turn", "9"] := nwB_ok (by decide +kernel)
        exact q q11 ("turn" :: "9" :: TH :: W) H11 (.of (nwT.glue (a := ["turn", "9"]) th_sort.1 th_sort.2 nw63) (by decide) (near_turn2 W)) (by rw [e11]; rfl) (k10.trans s11.keep) (hh10.same s11)
    walk_at "xxZ"
    refine ⟨a, d, rfl, hh2, fun p' t m H3 ht hm e3 k3 hh3 => ?_⟩
    have := near_when ht hm (b := []) (.inl rfl)
    rw [List.append_nil] at this
    exact q p' (whenW m t) H3 (.of (nwB_ok (whenW_nw t ht m hm)) (by decide) this) e3 (k2.trans k3) hh3
end
end K23
-- WIDE
-- RAISES read_place
namespace K23
open PySem PySem.Spec PyProof.Rows L2 Wy WN WQ WS WC WE WM W3 W4 W5 W7 W8 W9 W10 W23 WXD WB

theorem rp_str {z : Str} {n : Nat} (h : ∀ c ∈ tl z, c < 1114112) (hl : z.length ≤ n) : Rp 0 n (.str z) := by
  refine ⟨rfl, rfl, ?_, hl, by simp [PyData.depth]⟩
  simp only [PyData.leavesShort, List.all_eq_true, decide_eq_true_eq]
  exact fun c hc => Nat.lt_of_lt_of_le (h c hc) (by decide)
theorem rp_i10 {i : Int} (h : i.natAbs < 10 ^ 10) : Rp 0 200 (.int i) := rp_int (Nat.lt_of_lt_of_le h (by decide))
theorem rp_name {x : Str} (h : nameW x = true) : Rp 0 200 (.str x) := rp_str (fun c hc => by
  have key : ∀ c ∈ tl LET, c < 1114112 := by decide +kernel
  exact key c ((name_parts h).2.2.2 c hc)) (by have := (name_parts h).2.1; omega)
theorem rp_con {x : Str} (h : (x.length ≤ 200 ∧ ∀ c ∈ tl x, c < 1114112)) : Rp 0 200 (.str x) := rp_str h.2 h.1
theorem rp_plain {e : Ex} (h : Plain e) : Rp 1 603 e.d := by
  cases e with
  | num n =>
    exact (rp_tup (ds := [.str "num", .int n]) (n := 200) (k := 0) fun x hx => by
      simp only [List.mem_cons, List.not_mem_nil, or_false] at hx
      rcases hx with rfl | rfl
      · exact rp_con (by decide +kernel)
      · exact rp_i10 h).mono (by decide) (Nat.le_of_ble_eq_true rfl)
  | var x p =>
    exact (rp_tup (ds := [.str "var", .str x, .int p]) (n := 200) (k := 0) fun y hx => by
      simp only [List.mem_cons, List.not_mem_nil, or_false] at hx
      rcases hx with rfl | rfl | rfl
      · exact rp_con (by decide +kernel)
      · exact rp_name h.1
      · exact rp_i10 h.2).mono (by decide) (Nat.le_of_ble_eq_true rfl)
  | item x j p => exact h.elim
theorem rp_good {e : Ex} (h : Good e) : Rp 2 3000 e.d := by
  cases e with
  | num n => exact (rp_plain (e := .num n) h).mono (by decide) (Nat.le_of_ble_eq_true rfl)
  | var x p => exact (rp_plain (e := .var x p) h).mono (by decide) (Nat.le_of_ble_eq_true rfl)
  | item x j p =>
    exact (rp_tup (ds := [.str "item", .str x, j.d, .int p]) (n := 603) (k := 1) fun y hx => by
      simp only [List.mem_cons, List.not_mem_nil, or_false] at hx
      rcases hx with rfl | rfl | rfl | rfl
      · exact (rp_con (by decide +kernel)).mono (by decide) (Nat.le_of_ble_eq_true rfl)
      · exact (rp_name h.1).mono (by decide) (Nat.le_of_ble_eq_true rfl)
      · exact rp_plain h.2.1
      · exact (rp_i10 h.2.2).mono (by decide) (by decide)).mono (by decide) (Nat.le_of_ble_eq_true rfl)
theorem con_rp : ∀ w ∈ (["row", "yes", "no", "turn", "fault", "when", "check", "<", "<=", ">", ">=", "==", "!="] : List Str), w.length ≤ 200 ∧ ∀ c ∈ tl w, c < 1114112 := by decide +kernel
theorem nat_rp {r : Nat} (h : r < 10 ^ 10) : Rp 0 200 (.int (r : Int)) := rp_i10 (by omega)
theorem rp_at {a : At} (h : a.ok) : Rp 3 20000 a.d := by
  have ks : ∀ w ∈ W23.KS, w ∈ (["row", "yes", "no", "turn", "fault", "when", "check", "<", "<=", ">", ">=", "==", "!="] : List Str) := by decide +kernel
  have sg : ∀ w ∈ SIG, w ∈ (["row", "yes", "no", "turn", "fault", "when", "check", "<", "<=", ">", ">=", "==", "!="] : List Str) := by decide +kernel
  cases a with
  | ev k r =>
    exact (rp_tup (ds := [.str k, .int (r : Int)]) (n := 200) (k := 0) fun y hx => by
      simp only [List.mem_cons, List.not_mem_nil, or_false] at hx
      rcases hx with rfl | rfl
      · exact rp_con (con_rp _ (ks _ h.1))
      · exact nat_rp h.2).mono (by decide) (Nat.le_of_ble_eq_true rfl)
  | turn r n =>
    exact (rp_tup (ds := [.str "turn", .int (r : Int), .int (n : Int)]) (n := 200) (k := 0) fun y hx => by
      simp only [List.mem_cons, List.not_mem_nil, or_false] at hx
      rcases hx with rfl | rfl | rfl
      · exact rp_con (by decide +kernel)
      · exact nat_rp h.1
      · exact nat_rp h.2).mono (by decide) (Nat.le_of_ble_eq_true rfl)
  | fault r x =>
    exact (rp_tup (ds := [.str "fault", .int (r : Int), .str x]) (n := 200) (k := 0) fun y hx => by
      simp only [List.mem_cons, List.not_mem_nil, or_false] at hx
      rcases hx with rfl | rfl | rfl
      · exact rp_con (by decide +kernel)
      · exact nat_rp h.1
      · rcases h.2 with g | rfl
        · exact rp_name g
        · exact rp_con (by decide +kernel)).mono (by decide) (Nat.le_of_ble_eq_true rfl)
  | whn r s l e =>
    obtain ⟨h1, h2, h3, h4⟩ := h
    exact (rp_tup (ds := [.str "when", .int (r : Int), .str s, l.d, e.d]) (n := 3000) (k := 2) fun y hx => by
      simp only [List.mem_cons, List.not_mem_nil, or_false] at hx
      rcases hx with rfl | rfl | rfl | rfl | rfl
      · exact (rp_con (by decide +kernel)).mono (by decide) (Nat.le_of_ble_eq_true rfl)
      · exact (nat_rp h1).mono (by decide) (Nat.le_of_ble_eq_true rfl)
      · exact (rp_con (con_rp _ (sg _ h2))).mono (by decide) (Nat.le_of_ble_eq_true rfl)
      · exact rp_good h3
      · exact rp_good h4).mono (by decide) (Nat.le_of_ble_eq_true rfl)
theorem rp_place {ps : List At} (h : ∀ a ∈ ps, a.ok) (hl : ps.length ≤ 3) : Rp 4 60003 (.tuple (ps.map At.d)) := (rp_tup (ds := ps.map At.d) (n := 20000) (k := 3) fun y hy => by
  obtain ⟨a, ha, rfl⟩ := List.mem_map.mp hy
  exact rp_at (h a ha)).mono (by decide) (by rw [List.length_map]; omega)
section
variable {P : Program} {w : World} {K : PySem.W.Frag} {mg : Str → Option Value} {base : Heap}
def spRefuses : Sp := fun vs H Q _ => ∃ z : Str, vs = [.str z] ∧ z.length ≤ 1000000 ∧ placeO z = none ∧ (∀ ws, wordsW z = some ws → SmallW ws) ∧ ∀ H', Same H H' → Q (.bl true) H'
theorem k_law_refuses (T : Tx w K mg) : C8.Cal P w K mg base 11 "_law_refuses" spRefuses [] := by
  refine cal_of (N := n_law_refuses) T.d_law_refuses sc_law_refuses (fun _ _ F => F.bindsN fun _ _ _ _ _ _ us hl => match us, hl with | [_], _ => rfl) (fun vs H Q E h => ?_) (fun f cdv A outer s H vs Q E hr h => ?_)
  · obtain ⟨z, rfl, _⟩ := h
    rfl
  · obtain ⟨z, rfl, lz2, hp, hs, q⟩ := h
    refine ⟨_, (pss_cons (ps_try_as (i := 1) rfl rfl sc_law_refuses.nd rfl rfl ⟨rfl, by decide, .inl T.x_WayError⟩ WF.takes0 (fun W pn xe tk _ => (pss_one (ps_expr (WF.pe_cX (k_read_place T) tk hr (by first | decide | omega) (by rfl) (pa_cons (pv 0) pa_nil))))) (fun a oe cls d pn hz hf => (pss_cons (ps_if (PW.pt (pw_or (pt_tr (pe_callB (WF.call_isX hz hf : CallR _ _ (WF.rIsX K a cls d)) (by rfl) T.z_isinstance (by decide +kernel) (pa_cons (pv 1) (pa_cons (C8.pe_gc (v := .ref (He.ga K "BadLine")) (by rfl) ⟨_, T.x_BadLine, rfl⟩) pa_nil))) : PT _ _ (tTr K _)) (pw_or (pt_tr (pe_callB (WF.call_isX hz hf : CallR _ _ (WF.rIsX K a cls d)) (by rfl) T.z_isinstance (by decide +kernel) (pa_cons (pv 1) (pa_cons (C8.pe_gc (v := .ref (He.ga K "BadInput")) (by rfl) ⟨_, T.x_BadInput, rfl⟩) pa_nil))) : PT _ _ (tTr K _)) (pw_or (pt_tr (pe_callB (WF.call_isX hz hf : CallR _ _ (WF.rIsX K a cls d)) (by rfl) T.z_isinstance (by decide +kernel) (pa_cons (pv 1) (pa_cons (C8.pe_gc (v := .ref (He.ga K "BadPair")) (by rfl) ⟨_, T.x_BadPair, rfl⟩) pa_nil))) : PT _ _ (tTr K _)) (pw_or1 (pt_tr (pe_callB (WF.call_isX hz hf : CallR _ _ (WF.rIsX K a cls d)) (by rfl) T.z_isinstance (by decide +kernel) (pa_cons (pv 1) (pa_cons (C8.pe_gc (v := .ref (He.ga K "BadEdit")) (by rfl) ⟨_, T.x_BadEdit, rfl⟩) pa_nil))) : PT _ _ (tTr K _))))))) (pss_one (ps_ret pe_bl)) pss_nil) (pss_one (ps_ret (pe_and (pe_callB (WF.call_isX hz hf : CallR _ _ (WF.rIsX K a cls d)) (by rfl) T.z_isinstance (by decide +kernel) (pa_cons (pv 1) (pa_cons (C8.pe_gc (v := .ref (He.ga K "BadPlace")) (by rfl) ⟨_, T.x_BadPlace, rfl⟩) pa_nil))) (pe_and (pe_callB (WF.call_isX hz hf : CallR _ _ (WF.rIsX K a cls d)) (by rfl) T.z_isinstance (by decide +kernel) (pa_cons (pv 1) (pa_cons (pe_bltn (v := .ty "ValueError") (by rfl) T.z_ValueError (by decide +kernel) rfl) pa_nil))) (pe_one (pe_not (pe_callB (WF.call_isXT hz hf : CallR _ _ (WF.rIsXT K a cls d)) (by rfl) T.z_isinstance (by decide +kernel) (pa_cons (pv 1) (pa_cons (pe_tup (pa_cons (C8.pe_gc (v := .ref (He.ga K "TooLong")) (by rfl) ⟨_, T.x_TooLong, rfl⟩) (pa_cons (C8.pe_gc (v := .ref (He.ga K "TooWide")) (by rfl) ⟨_, T.x_TooWide, rfl⟩) pa_nil))) pa_nil)))))))))))) (pss_one (ps_ret pe_bl))), ?_⟩
    walk_at "xxZ"
    refine WF.w_cX ?_
    walk_at "xxZ"
    refine ⟨z, rfl, lz2, hs, fun _ H1 s1 => ⟨true, T.u_BadPlace_WayError.m, fun _ a ha => ?_, fun z => nomatch z⟩, fun ds hd => ?_⟩
    · walk_at "xxZ"
      refine WF.b_isX T.e_BadPlace T.u_BadPlace_BadLine ?_
      walk_at "xxZ"
      refine WF.b_isX T.e_BadPlace T.u_BadPlace_BadInput ?_
      walk_at "xxZ"
      refine WF.b_isX T.e_BadPlace T.u_BadPlace_BadPair ?_
      walk_at "xxZ"
      refine WF.b_isX T.e_BadPlace T.u_BadPlace_BadEdit ?_
      walk_at "xxZ"
      refine WF.b_isX T.e_BadPlace T.u_BadPlace_BadPlace ?_
      walk_at "xxZ"
      refine WF.b_isXT T.e_BadPlace T.u_BadPlace_ValueError ?_
      walk_at "xxZ"
      rename_i t H2 n2 s2 e2
      refine WF.b_isX2 T.e_BadPlace T.u_BadPlace_TooLong T.u_BadPlace_TooWide e2 ?_
      walk_at "xxZ"
      exact q H2 (s1.trans s2)
    · rw [hp] at hd
      cases hd
end
end K23
-- WIDE
-- RAISES read_place
namespace K23
open PySem PySem.Spec PyProof.Rows L2 Wy WN WQ WS WC WE WM W3 W4 W5 W7 W8 W9 W10 W23 WXD WB

theorem pl_small {ps : List At} (ho : ∀ a ∈ ps, a.ok) (hl : ps.length ≤ 3) : SmallW (plWs ps) := Nw.small (place_nw ho) (by omega)
theorem spaced_good {ps : List At} {z : Str} (hne : ps ≠ []) (hl : ps.length ≤ 3) (ho : ∀ a ∈ ps, a.ok) (s : Spaced (plWs ps) z) : wordsW z = some (plWs ps) := by
  obtain ⟨k, g, e, hg, gp⟩ := s.ex
  have nw := place_nw ho
  have hw := words_spaced e (fun p hp => (nw.wd p.1 (by rw [← hg]; exact List.mem_map_of_mem hp)).1) gp (by rw [hg]; exact nw.nj)
  rw [hg] at hw
  exact hw
theorem join_len3 {ps : List At} (hl : ps.length ≤ 3) (ho : ∀ a ∈ ps, a.ok) : (Txt.join JT (ps.map At.tx)).length ≤ 1000000 := by
  have hj := WR.join_len (y := JT) (ps := ps.map At.tx) (B := 110000) fun p hp => by
    obtain ⟨a, ha, rfl⟩ := List.mem_map.mp hp
    exact tx_len (ho a ha)
  have e : JT.length = 6 := by decide +kernel
  rw [e, List.length_map] at hj
  have : ps.length * (110000 + 6) ≤ 3 * 110006 := Nat.mul_le_mul_right _ hl
  omega
section
variable {P : Program} {w : World} {K : PySem.W.Frag} {mg : Str → Option Value} {base : Heap}
theorem ok_law (T : Tx w K mg) {f : Addr} {fd : FuncData} (F : FunD K "law" "law" (defArgs s_law) (defBody s_law) (defScope s_law) [] [] f fd) : WG.FnG P w K mg base 20 f fd ["script"] (spLaw K) := by
  refine WG.fnG (N := n_law) fd F sc_law (fun vs H Q E h => ?_) (fun f cdv A outer s H vs Q E hr hq h => ?_)
  · obtain ⟨a, ns, rfl, _⟩ := h
    rfl
  · obtain ⟨a0, zs, rfl, hS, hl, q⟩ := h
    refine ⟨_, (pss_cons (ps_asg (pe_lst (pa_cons (C8.pe_c (k_law_draws T) hr (by first | decide | omega) (by rfl) (pa_cons (pv 0) (pa_cons pe_int pa_nil))) (pa_cons pe_int pa_nil))) (pg_name (i := 1) sc_law.nd rfl (Or.inr rfl))) (pss_cons (ps_asg (pe_callTy (W6.call_tup2 : CallR _ _ (W6.rTup K)) (by rfl) T.z_tuple (by decide +kernel) (pa_cons (pe_lc (own := [("k", 9)]) (g := gName 9) (tt := tYes) (by rfl) sc_law.nd (pi_range1 (by rfl) T.z_range (pa_cons (pe_op op_add3 pe_int (C8.pe_c (k_law_take T) hr (by first | decide | omega) (by rfl) (pa_cons (pv 1) (pa_cons pe_int pa_nil)))) pa_nil)) (blkOk_by (own := [("k", 9)]) (N := n_law) (sc := defScope s_law) (by decide +kernel)) (fun _ _ _ _ _ => pg_name (i := 9) sc_law.nd rfl (Or.inl rfl)) (fun _ _ _ _ _ => pts_nil) (fun _ _ _ _ _ => (C8.pe_c (k_law_atom T) hr (by first | decide | omega) (by rfl) (pa_cons (pv 1) pa_nil)))) pa_nil)) (pg_name (i := 2) sc_law.nd rfl (Or.inl rfl))) (pss_cons (ps_asg (C8.pe_c (k_law_text T) hr (by first | decide | omega) (by rfl) (pa_cons (pv 2) pa_nil)) (pg_name (i := 3) sc_law.nd rfl (Or.inl rfl))) (pss_cons (ps_asg (C8.pe_c (k_write_place T) hr (by first | decide | omega) (by rfl) (pa_cons (pv 2) pa_nil)) (pg_name (i := 4) sc_law.nd rfl (Or.inl rfl))) (pss_cons (ps_if (PW.pt (pw_or (pt_not (pt_tr (pe_callB (call_isi2 : CallR _ _ (rIsi2 K)) (by rfl) T.z_isinstance (by decide +kernel) (pa_cons (pv 4) (pa_cons (pe_bltn (v := .ty "str") (by rfl) T.z_str (by decide +kernel) rfl) pa_nil))) : PT _ _ (tTr K _))) (pw_or1 (pt_cmpR (op_ne2 hr.units : OpR _ _ (rNe2 K)) (pv 4) (pv 3) (nomark _))))) (pss_one (ps_ret pe_bl)) pss_nil) (pss_cons (ps_asg (C8.pe_c (k_law_place_words T) hr (by first | decide | omega) (by rfl) (pa_cons (pv 2) pa_nil)) (pg_name (i := 5) sc_law.nd rfl (Or.inl rfl))) (pss_cons (ps_asg (C8.pe_c (k_law_spaced T) hr (by first | decide | omega) (by rfl) (pa_cons (pv 1) (pa_cons (C8.pe_c (k_law_near T) hr (by first | decide | omega) (by rfl) (pa_cons (pv 1) (pa_cons (pv 5) pa_nil))) pa_nil))) (pg_name (i := 6) sc_law.nd rfl (Or.inl rfl))) (pss_cons (ps_for PassesOwn.never rfl (pi_list (pe_lst (pa_cons (pv 3) (pa_cons (C8.pe_c (k_law_spaced T) hr (by first | decide | omega) (by rfl) (pa_cons (pv 1) (pa_cons (pv 5) pa_nil))) (pa_cons (pv 3) pa_nil)))) : PI _ _ _ (iList K _)) (pg_name (i := 7) sc_law.nd rfl (Or.inl rfl)) (pss_cons (ps_if (pt_not (pt_tr (C8.pe_c (k_law_refuses T) hr (by first | decide | omega) (by rfl) (pa_cons (pv 6) pa_nil)) : PT _ _ (tTr K _))) (pss_one (ps_ret pe_bl)) pss_nil) (pss_cons (ps_asg (WF.pe_cX (k_read_place T) WF.takes0 hr (by first | decide | omega) (by rfl) (pa_cons (pv 7) pa_nil)) (pg_name (i := 8) sc_law.nd rfl (Or.inl rfl))) (pss_one (ps_if (PW.pt (pw_or (pt_not (pt_tr (pe_callB (call_isi2 : CallR _ _ (rIsi2 K)) (by rfl) T.z_isinstance (by decide +kernel) (pa_cons (pv 8) (pa_cons (pe_bltn (v := .ty "tuple") (by rfl) T.z_tuple (by decide +kernel) rfl) pa_nil))) : PT _ _ (tTr K _))) (pw_or1 (pt_cmpR (op_ne2 hr.units : OpR _ _ (rNe2 K)) (pe_callB (WG.call_reprG hq hr.units : CallR _ _ (rRepr K)) (by rfl) T.z_repr (by decide +kernel) (pa_cons (pv 8) pa_nil)) (pe_callB (WG.call_reprG hq hr.units : CallR _ _ (rRepr K)) (by rfl) T.z_repr (by decide +kernel) (pa_cons (pv 2) pa_nil)) (nomark _))))) (pss_one (ps_ret pe_bl)) pss_nil))))) (pss_one (ps_ret pe_bl)))))))))), ?_⟩
    walk_at "xxZ"
    refine ⟨a0, zs, 260, rfl, hS, hl, by decide, by decide, fun d H1 ds s1 n1 e1 => ?_⟩
    walk_at "xxZ"
    rename_i hd H2 n2 s2 e2
    have hh2 : HandAt H2 hd d := ⟨0, ds, e2, Int.le_refl _, s2 _ _ e1⟩
    clear e1 e2
    walk_at "xxZ"
    refine ⟨hd, d, _, rfl, hh2, by omega, fun r H3 ra rb c3 hh3 => ?_⟩
    obtain ⟨r, rfl⟩ := nat_of ra
    walk_at "xxZ"
    refine c_range (fun D i H' => Keep hd H3 H' ∧ HandAt H' hd d ∧ ∃ (us : List V) (ps : List At), H' D = some (.lst us) ∧ TpAll H' us (ps.map At.d) ∧ (∀ a ∈ ps, a.ok) ∧ ps.length = i) (fun D H4 nD s4 e4 => ⟨s4.keep, hh3.same s4, [], [], e4, .nil, fun _ h => (by cases h), rfl⟩) (fun D i H4 hi nD p => ?_) (fun D H4 nD p => ?_)
    · obtain ⟨k4, hh4, us, ps, e4, t4, ho, hps⟩ := p
      have nn := hh3.new nD
      refine g_name ⟨rfl, t_yes (iteTT rfl ?_)⟩
      walk_at "xxZ"
      refine ⟨hd, d, rfl, hh4, fun v a H5 ha ta k5 hh5 => ?_⟩
      have lu := t4.length
      rw [List.length_map] at lu
      have e5 := k5 _ _ nn.1.symm e4
      refine c_out e5 (small1000' (by omega)) fun H6 c6 e6 => ?_
      have tk6 := c6.tk e5
      refine ⟨(k4.trans k5).chg c6 nD, hh5.chg c6 nn.1 nn.2, us ++ [v], ps ++ [a], e6, ?_, fun x hx => ?_, by rw [List.length_append, hps]; rfl⟩
      · rw [List.map_append]
        exact WQ.tpSnoc ((t4.tk (hh4.keep_tk k5)).tk tk6) (ta.tk tk6)
      · rcases List.mem_append.mp hx with hx | hx
        · exact ho x hx
        · rw [List.mem_singleton.mp hx]
          exact ha
    · obtain ⟨k4, hh4, us, ps, e4, t4, ho, hps⟩ := p
      have hps3 : ps.length ≤ 3 := by omega
      have hne : ps ≠ [] := fun z => by
        rw [z] at hps
        simp at hps
        omega
      walk_at "xxZ"
      refine W6.b_tup (lst_of e4) fun pl H5 n5 s5 e5 => ?_
      have tp5 : Tp H5 (.ref pl) (.tuple (ps.map At.d)) := .tup e5 (t4.tk s5.tk)
      have hh5 := hh4.same s5
      clear e4 t4 e5 hh4 s5 n5
      walk_at "xxZ"
      refine ⟨.ref pl, ps, rfl, tp5, ho, hps3, fun H6 s6 => ?_⟩
      walk_at "xxZ"
      refine ⟨.ref pl, ps, rfl, tp5.tk s6.tk, ho, hps3, fun H7 s7 => ?_⟩
      have hh7 := hh5.same (s6.trans s7)
      have tp7 := tp5.tk (s6.trans s7).tk
      clear tp5 hh5 s6 s7
      walk_at "xxZ"
      refine iteFF (by rw [decide_eq_true rfl]; rfl) ?_
      walk_at "xxZ"
      refine ⟨.ref pl, ps, rfl, tp7, ho, hps3, fun wl H8 s8 n8 e8 => ?_⟩
      have hh8 := hh7.same s8
      have tp8 := tp7.tk s8.tk
      clear hh7 tp7
      walk_at "xxZ"
      refine ⟨hd, d, wl, ps, rfl, hh8, e8, hne, ho, hps3, fun p' ws H9 nok e9 k9 hh9 => ?_⟩
      have wa := list_ne_hand hh8 e8
      have e89 := k9 _ _ wa e8
      have tp9 := tp8.tk (hh8.keep_tk k9)
      clear hh8 tp8 e8
      walk_at "xxZ"
      refine ⟨hd, d, p', ws, rfl, hh9, e9, nok.len, nok.short, fun z H10 sz lz3 k10 hh10 => ?_⟩
      have tp10 := tp9.tk (hh9.keep_tk k10)
      have e10 := k10 _ _ wa e89
      obtain ⟨zb, zs2⟩ := nok.read sz
      clear hh9 tp9 e89 e9 nok sz
      walk_at "xxZ"
      have hps2 := pl_small ho hps3
      have nwp := place_nw ho
      refine ⟨hd, d, wl, plWs ps, rfl, hh10, e10, by have := nwp.len; omega, fun y hy => Nat.le_trans (nwp.wd y hy).2 (by decide), fun y H11 sy ly k11 hh11 => ?_⟩
      have tp11 := tp10.tk (hh10.keep_tk k11)
      have hy := spaced_good hne hps3 ho sy
      have ht := (place_text hne ho).words
      have lt := join_len3 hps3 ho
      have gy := place_good hne hps3 ho hy
      have gt := place_good hne hps3 ho ht
      have smy : ∀ us, wordsW y = some us → SmallW us := fun us h => by
        rw [hy] at h
        cases h
        exact hps2
      have smt : ∀ us, wordsW (Txt.join JT (ps.map At.tx)) = some us → SmallW us := fun us h => by
        rw [ht] at h
        cases h
        exact hps2
      generalize Txt.join JT (ps.map At.tx) = tx at lt gt smt
      clear hh10 tp10 e10
      walk_at "xxZ"
      rename_i l12 H12 n12 s12 e12
      have tp12 := tp11.tk s12.tk
      clear tp11 hh11
      refine f_list (xs := [.str tx, .str y, .str tx]) (fun i σ H' => ∃ (x7 x8 : Option V), σ = [some (.ref a0), some (.ref hd), some (.ref pl), some (.str tx), some (.str tx), some (.ref wl), some (.str z), x7, x8, none] ∧ Same H12 H') ⟨none, none, rfl, Same.refl _⟩ (fun i σ H' hi g => ?_) (fun i u σ H13 hu g => ?_) (fun σ H13 g => ?_)
      · obtain ⟨_, _, _, s⟩ := g
        exact s.seq (lst_of e12)
      · obtain ⟨x7, x8, rfl, s13⟩ := g
        obtain ⟨x, rfl, lx, gx, smx⟩ : ∃ x : Str, u = .str x ∧ x.length ≤ 1000000 ∧ placeO x = some (ps.map At.d) ∧ ∀ us, wordsW x = some us → SmallW us := by
          have hm := List.mem_of_getElem? hu
          simp only [List.mem_cons, List.not_mem_nil, or_false] at hm
          rcases hm with rfl | rfl | rfl
          · exact ⟨_, rfl, lt, gt, smt⟩
          · exact ⟨_, rfl, by omega, gy, smy⟩
          · exact ⟨_, rfl, lt, gt, smt⟩
        walk_at "xxZ"
        refine ⟨z, rfl, by omega, zb, zs2, fun H14 s14 => ?_⟩
        walk_at "xxZ"
        refine WF.w_cX ?_
        walk_at "xxZ"
        refine ⟨x, rfl, lx, smx, fun hx => ?_, fun ds hx v H15 s15 t15 => ?_⟩
        · rw [gx] at hx
          cases hx
        · rw [gx] at hx
          cases hx
          obtain ⟨b, us, rfl, eb, tus⟩ := tpL t15
          have tp15 := tp12.tk ((s13.trans s14).trans s15).tk
          walk_at "xxZ"
          refine b_repr t15.dp (rp_place ho hps3) (by decide) (by decide) ?_
          walk_at "xxZ"
          refine b_repr tp15.dp (rp_place ho hps3) (by decide) (by decide) ?_
          walk_at "xxZ"
          refine iteFF (by rw [decide_eq_true rfl]; rfl) ?_
          walk_at "xxZ"
          exact ⟨_, _, rfl, (s13.trans s14).trans s15⟩
      · obtain ⟨x7, x8, rfl, s13⟩ := g
        walk_at "xxZ"
        exact q _
end
end K23
open PySem PySem.W PySem.Calls PyProof.Rows
set_option maxHeartbeats 0 in
theorem PySem.Challenge.cw_wayorring_k23_place_texts_holds : PySem.Challenge.rw_wayorring_k23_place_texts.Holds := by
  w_on; o_law
  refine HandSHeadRun.head_any (r := OpenLaw.row PySem.Challenge.rw_wayorring_k23_place_texts) (q := view (OpenLaw.row PySem.Challenge.rw_wayorring_k23_place_texts).prog [67]) (H := K23.hk) (ob := K23.ob) (M := 20000) (loose := K23.loose) (d := HandSHeadRun.topDef (OpenLaw.row PySem.Challenge.rw_wayorring_k23_place_texts).prog 67) (kwd := []) K23.ob_eq
    (by kernel_rfl) (fun s => by kernel_rfl) K23.run (by kernel_rfl) (by kernel_rfl) (by kernel_rfl) (by rfl) (by first | assumption | decide +kernel) (by decide +kernel) ⟨rfl, rfl, rfl, rfl, rfl, by decide +kernel⟩ ?hw ?hc
  case hw => w_witness2
  case hc =>
    refine WG.walkG (l := PySem.Challenge.rw_wayorring_k23_place_texts) (n := 63) (k := 20) (x := "script") rfl (by decide) (by kernel_rfl) ⟨rfl, by decide, by decide⟩ ?F
    intro w mg fa h Y G hmg0
    obtain ⟨K, KX, c⟩ := Y
    have hmg : mg ("law" : PySem.Str) = some (.ref fa) := by
      have e : (HandSHeadRun.topDef (OpenLaw.row PySem.Challenge.rw_wayorring_k23_place_texts).prog 67).name = ("law" : PySem.Str) := by kernel_rfl
      rw [← e]
      exact hmg0
    have T := K23.tx_of KX G c
    obtain ⟨f, fd, F, e2⟩ := T.d_law.ex
    have e3 := hmg.symm.trans e2
    cases e3
    exact ⟨K, fd, K23.spLaw K, KX, fun s v => L2.FunD.bindsA (ps := ["script"]) F (fun _ _ _ _ _ _ us hl => match us, hl with | [_], _ => rfl) s [v] rfl, fun H a ns hl hS => ⟨a, ns, rfl, hS, hl, fun _ => rfl⟩, fun base => K23.ok_law T F⟩

