import PyProof.Rows.All
import Wide.All
import OpenK.AllK
import Wide.FinOn
import KE.KStateDown
import HandS.ForMost
import HandS.IsInst
import HandS.Codes
import HandS.Exc
import HandS.Defaults
import HandS.Head0
import HandS.Head1
import HandS.Head2
import HandS.HeadEnd
import HandS.HeadHook1
import HandS.HeadHook2
import HandS.HeadHook3
import HandS.HeadHook4
import HandS.FStr
import HandS.Dict
import HandS.More
import Wide.Once
import KE.IntTextLaws
import PyProof.Rows.StrDigitsNeg
import HandS.Conv
import HandS.Wide
import HandS.Style
import HandS.Star
import HandS.TupAny
import PyProof.ReprRoads
import PyProof.ReprLen
import PyProof.P3Eq
import PySem.Challenge.RW_wayorring_k03_conditions_read_back
set_option Elab.async false
set_option linter.all false
set_option maxRecDepth 100000
set_option maxHeartbeats 8000000
/-! Wy: rules that take operands of several kinds, and steps. -/
namespace Wy
open PySem PySem.Spec PyProof.Rows L2
section
variable {X : Cx}
theorem CallR.or {f : Value} {r r' : List V → Hp → VK → Prop} (h : CallR X f r) (h' : CallR X f r') : CallR X f (fun xs H Q => r xs H Q ∨ r' xs H Q) := by
  intro pins s σ H xs us Q I rv q
  rcases q with q | q
  · exact h pins s σ H xs us Q I rv q
  · exact h' pins s σ H xs us Q I rv q
/-- k times a text -/
def repS (z : Str) (k : Int) : Str := ⟨(List.replicate k.toNat z.cps.toList).flatten.toArray⟩
theorem foldl_rep (a : Array Nat) : ∀ (n : Nat) (acc : Array Nat), ((List.replicate n a).foldl (· ++ ·) acc) = (acc.toList ++ (List.replicate n a.toList).flatten).toArray
  | 0, acc => by simp
  | n + 1, acc => by
    rw [List.replicate_succ, List.foldl_cons, foldl_rep a n, List.replicate_succ, List.flatten_cons]
    simp
theorem repS_eq (z : Str) (n : Int) : (⟨(List.replicate n.toNat z.cps).foldl (· ++ ·) #[]⟩ : Str) = repS z n := by
  unfold repS
  rw [foldl_rep]
  simp
def rMulSI : R2 := fun x y H Q => ∃ z k, x = .str z ∧ y = .int k ∧ 0 ≤ k ∧ k ≤ 1000 ∧ z.length ≤ 1000 ∧ Q (.str (repS z k)) H
theorem op_mulSI : OpR X (binaryOp .Mult) rMulSI := by
  intro pins s σ H x y v u Q I rx ry h
  obtain ⟨z, k, rfl, rfl, h0, h1, h2, q⟩ := h
  obtain ⟨t, rfl⟩ := rx
  obtain ⟨t', rfl⟩ := ry
  have hs : sizeLine = 16777216 := sizeLine_eq
  refine PySem.P.mul_str ?_ (fun a b => ?_) (fun a b => ?_) ?_
  · rw [decide_eq_false (by omega), decide_eq_false (by omega)]
    rfl
  · have h3 : (1000 : Int) ≤ (2 ^ 63 - 1) / k := (Int.le_ediv_iff_mul_le (by omega)).mpr (by omega)
    omega
  · unfold Builtin.Str.tooLong
    rw [decide_eq_false_iff_not]
    have h4 : z.length * k.toNat ≤ 1000 * 1000 := Nat.mul_le_mul h2 (by omega)
    omega
  · by_cases a : k < 1
    · have ek : k = 0 := by omega
      subst ek
      rw [if_pos a]
      have e : repS z 0 = Str.empty := rfl
      rw [e] at q
      exact ⟨by decide, .str Str.empty, H, I.tok _, ⟨_, rfl⟩, q⟩
    · rw [if_neg a]
      by_cases b : (k == 1 || z.length == 0) = true
      · rw [if_pos b]
        have e : repS z k = z := by
          rcases Bool.or_eq_true_iff.mp b with b | b
          · have e1 : k = 1 := by simpa using b
            subst e1
            unfold repS
            simp
          · have e1 : z.length = 0 := by simpa using b
            have e2 : z.cps = #[] := by simpa [Str.length] using e1
            obtain ⟨c⟩ := z
            unfold repS
            simp at e2
            subst e2
            simp
        rw [e] at q
        exact ⟨.str z, H, I, ⟨_, rfl⟩, q⟩
      · rw [if_neg b, repS_eq]
        refine ⟨?_, .str (repS z k), H, I.tok _, ⟨_, rfl⟩, q⟩
        have h4 : (repS z k).length = k.toNat * z.length := by
          unfold repS
          simp [Str.length, List.length_flatten, List.map_replicate, List.sum_replicate_nat]
        rw [h4]
        have h5 : k.toNat * z.length ≤ 1000 * 1000 := Nat.mul_le_mul (by omega) h2
        omega
/-- + of two ints, two texts, two lists -/
def rAddS : R2 := fun x y H Q => ∃ i j, x = .str i ∧ y = .str j ∧ i.length + j.length ≤ sizeLine ∧ Q (.str (i ++ j)) H
def rAddI : R2 := rI0 fun i j => .int (i + j)
def rAdd3 : R2 := fun x y H Q => rAddI x y H Q ∨ rAddS x y H Q ∨ rCat x y H Q
theorem op_add3 : OpR X (binaryOp .Add) rAdd3 := op_add.or (op_add_str.or op_cat)
def rMul2 : R2 := fun x y H Q => rI CMul (fun i j => .int (i * j)) x y H Q ∨ rMulSI x y H Q
theorem op_mul2 : OpR X (binaryOp .Mult) rMul2 := op_mul.or op_mulSI
/-- == -/
def rEq2 (K : PySem.W.Frag) : R2 := fun x y H Q => rEq x y H Q ∨ rEqD K x y H Q
theorem op_eq2 (hu : X.A.units + 64 < cLine) : OpR X (compareOp .Eq) (rEq2 X.K) := op_eq.or (op_eqD hu)
def rNe2 (K : PySem.W.Frag) : R2 := fun x y H Q => rNe x y H Q ∨ rNeD K x y H Q
theorem op_ne2 (hu : X.A.units + 64 < cLine) : OpR X (compareOp .NotEq) (rNe2 X.K) := op_ne.or (op_neD hu)
/-- in: a sign in a text; a flat item in a list or tuple -/
def rInS : R2 := fun x y H Q => ∃ (c : Nat) (z : Str), x = .str ⟨#[c]⟩ ∧ y = .str z ∧ Q (.bl (decide (c ∈ z.cps.toList))) H
def rNiS : R2 := fun x y H Q => ∃ (c : Nat) (z : Str), x = .str ⟨#[c]⟩ ∧ y = .str z ∧ Q (.bl (!decide (c ∈ z.cps.toList))) H
def rIn2 (K : PySem.W.Frag) : R2 := fun x y H Q => rInS x y H Q ∨ rIn K false x y H Q
def rNi2 (K : PySem.W.Frag) : R2 := fun x y H Q => rNiS x y H Q ∨ rIn K true x y H Q
theorem op_in2 : OpR X (compareOp .In) (rIn2 X.K) := op_in_sign.or op_in_seq
theorem op_ni2 : OpR X (compareOp .NotIn) (rNi2 X.K) := op_notIn_sign.or op_notIn_seq
def rSl2 (K : PySem.W.Frag) : V → Option Int → Option Int → Hp → VK → Prop := fun x lo hi H Q => rSlS x lo hi H Q ∨ rSlL K x lo hi H Q
theorem sl_2 : SlR X (rSl2 X.K) := sl_str.or sl_list
def rInt : List V → Hp → VK → Prop := fun xs H Q => ((∃ i, xs = [.int i] ∧ Q (.int i) H) ∨ ∃ k, xs = [.bl k] ∧ Q (.int (if k then 1 else 0)) H) ∨ ∃ a n, xs = [.str a] ∧ PySem.intText? a = some n ∧ a.length ≤ 640 ∧ Q (.int n) H
theorem call_int2 : CallR X (.type "int") rInt := CallR.or call_int1 call_int_str
def rAbs : List V → Hp → VK → Prop := fun xs H Q => ∃ i, xs = [.int i] ∧ Q (.int (if i < 0 then -i else i)) H
theorem call_abs2 : CallR X (.builtin "abs") rAbs := call_abs
def rLn (K : PySem.W.Frag) : List V → Hp → VK → Prop := fun xs H Q => ∃ x n, xs = [x] ∧ LenV K x H n ∧ Q (.int n) H
theorem call_len2 : CallR X (.builtin "len") (rLn X.K) := call_len
def tTr (K : PySem.W.Frag) (ta : TE) : TT := fun σ H Q => ta σ H fun x H' => ∃ k, TruV K x H' k ∧ Q k H'
theorem pt_tr {e : Expr} {te : TE} (h : PE X e te) (he : ∀ whole, isTrue e X.env whole = (do let v ← whole; standAt e.pos; holding [v] (truthy v)) := by intro _; rfl) : PT X e (tTr X.K te) := pt_truth h he
end

/-! ### what a heap keeps -/
/-- only at l -/
def Chg (l : Addr) (H H' : Hp) : Prop := ∀ b, b ≠ l → H' b = H b
theorem same_new {H : Hp} {p : Addr} {o : HO} (h : H p = none) : Same H (upd H p o) := fun b x e => by
  rw [upd_ne (ne_of_none e h)]
  exact e
theorem chg_upd {H : Hp} {p : Addr} {o : HO} : Chg p H (upd H p o) := fun b e => by rw [upd_ne e]
theorem Chg.same {l : Addr} {H0 H H' : Hp} (c : Chg l H H') (s : Same H0 H) (n : H0 l = none) : Same H0 H' := fun b o e => by
  rw [c b (ne_of_none e n)]
  exact s b o e
theorem Chg.at {l b : Addr} {H H' : Hp} {o : HO} (c : Chg l H H') (e : H b = some o) (n : b ≠ l) : H' b = some o := by
  rw [c b n]
  exact e
theorem new_same {H : Hp} {o : HO} {Q : VK} (h : ∀ p H2, H p = none → Same H H2 → H2 p = some o → Q (.ref p) H2) : ∀ p, H p = none → Q (.ref p) (upd H p o) :=
  fun p np => h p _ np (same_new np) upd_same
theorem lst_of {K : PySem.W.Frag} {H : Hp} {a : Addr} {xs : List V} (h : H a = some (.lst xs)) : SqL K H a xs := .inl (.inl h)
theorem tup_of {K : PySem.W.Frag} {H : Hp} {a : Addr} {xs : List V} (h : H a = some (.tup xs)) : SqT K H a xs := .inl (.inl h)
theorem seqT {K : PySem.W.Frag} {H H' : Hp} {a : Addr} {xs : List V} (e : Same H H') (h : SqT K H a xs) : SqT K H' a xs := by
  rcases h with (h | ⟨o, h⟩) | h
  · exact .inl (.inl (e _ _ h))
  · exact .inl (.inr ⟨o, e _ _ h⟩)
  · exact .inr h
/-! ### steps -/
def KBl (x : V) (H : Hp) (QT : Bool → Hp → Prop) : Prop := ∃ k, x = .bl k ∧ QT k H
def KTr (K : PySem.W.Frag) (x : V) (H : Hp) (QT : Bool → Hp → Prop) : Prop := ∃ k, TruV K x H k ∧ QT k H
def KInt (x : V) (H : Hp) (QO : Option Int → Hp → Prop) : Prop := ∃ i, x = .int i ∧ QO (some i) H
def KR1 (vs : List V) (H : Hp) (R : It → Hp → Prop) : Prop := ∃ j : Int, vs = [.int j] ∧ -(2 ^ 62) ≤ j ∧ j < 2 ^ 62 ∧ R (Itr 0 j.toNat) H
def KR2 (vs : List V) (H : Hp) (R : It → Hp → Prop) : Prop := ∃ i j : Int, vs = [.int i, .int j] ∧ (-(2 ^ 62) ≤ i ∧ i < 2 ^ 62 ∧ -(2 ^ 62) ≤ j ∧ j < 2 ^ 62) ∧ R (Itr i (j - i).toNat) H
def KL (K : PySem.W.Frag) (x : V) (H : Hp) (R : It → Hp → Prop) : Prop := ∃ a, x = .ref a ∧ (∃ xs, SqL K H a xs) ∧ R (Itl K a) H
def KT (K : PySem.W.Frag) (x : V) (H : Hp) (R : It → Hp → Prop) : Prop := ∃ a, x = .ref a ∧ (∃ xs, SqT K H a xs) ∧ R (Itt K a) H
def KS (x : V) (H : Hp) (R : It → Hp → Prop) : Prop := ∃ z, x = .str z ∧ R (Its z) H
def NewO (n : Nat) (o : HO) (H : Hp) (Q : VK) : Prop := n ≤ sizeLine ∧ ∀ p, H p = none → Q (.ref p) (upd H p o)
def COut (D : Addr) (y : V) (H : Hp) (N : Hp → Prop) : Prop := ∃ acc, H D = some (.lst acc) ∧ acc.length < sizeLine ∧ N (upd H D (.lst (acc ++ [y])))
def KWh (W : Nat → L2.St → Hp → Prop) (m : Nat) (t : TS) (D : Ends) (σ : L2.St) (H : Hp) : Prop := ∃ N : L2.St → Hp → Prop, (∀ σ' H', N σ' H' → ∃ m', m' < m ∧ W m' σ' H') ∧ t ⟨N, D.rt, D.nx, N⟩ σ H
section
variable {K : PySem.W.Frag} {σ : L2.St} {H : Hp} {Q : VK} {QT : Bool → Hp → Prop} {D : Ends} {t u : TS} {c c' : TT} {te ta tb : TE} {g : TG} {v x y : V} {i : Nat} {b : Bool} {QA : List V → Hp → Prop}
theorem s_seq (h : t ⟨u D, D.rt, D.bk, D.ct⟩ σ H) : tSeq t u D σ H := h
theorem s_asg (h : te σ H fun x H1 => g x σ H1 D.nx) : tAsg te g D σ H := h
theorem g_name {QS : L2.St → Hp → Prop} (h : QS (σ.set i (some v)) H) : gName i v σ H QS := h
theorem s_ret (h : te σ H D.rt) : tRet te D σ H := h
theorem s_retN (h : D.rt .non H) : tRetN D σ H := h
theorem s_drop (h : te σ H fun _ H1 => D.nx σ H1) : tDrop te D σ H := h
theorem s_if (h : c σ H fun b H1 => if b = true then t D σ H1 else u D σ H1) : tIfS c t u D σ H := h
theorem s_next (h : D.nx σ H) : tNext D σ H := h
theorem s_brk (h : D.bk σ H) : tBreak D σ H := h
theorem s_ct (h : D.ct σ H) : tCont D σ H := h
theorem s_aug {ti : TIp} (e : σ[i]? = some (some x)) (h : te σ H fun y H1 => ti x y H1 fun z H2 => D.nx (σ.set i (some z)) H2) : tAug i te ti D σ H := ⟨x, e, h⟩
theorem i_add {i j : Int} {f : Int → Int → Int} (h : Q (.int (f i j)) H) : ipI f (.int i) (.int j) H Q := ⟨i, j, rfl, rfl, h⟩
theorem s_cut (M : L2.St → Hp → Prop) (h : t ⟨M, D.rt, D.bk, D.ct⟩ σ H) (k : ∀ σ' H', M σ' H' → u D σ' H') : C8.tCut t u D σ H := ⟨M, h, k⟩
theorem e_var (e : σ[i]? = some (some v)) (h : Q v H) : tVar i σ H Q := ⟨v, e, h⟩
theorem e_c (h : Q v H) : tC v σ H Q := h
theorem e_op {r : R2} (h : ta σ H fun x H1 => tb σ H1 fun y H2 => r x y H2 Q) : tOp r ta tb σ H Q := h
theorem e_un {r : V → Hp → VK → Prop} (h : ta σ H fun x H1 => r x H1 Q) : tUn r ta σ H Q := h
theorem o_addI {i j : Int} (h : Q (.int (i + j)) H) : rAdd3 (.int i) (.int j) H Q := .inl ⟨i, j, rfl, rfl, h⟩
theorem o_addS {i j : Str} (hz : i.length + j.length ≤ sizeLine) (h : Q (.str (i ++ j)) H) : rAdd3 (.str i) (.str j) H Q := .inr (.inl ⟨i, j, rfl, rfl, hz, h⟩)
theorem o_addL {a a' : Addr} {xs ys : List V} (ha : H a = some (.lst xs)) (hb : H a' = some (.lst ys)) (hz : xs.length + ys.length ≤ sizeLine) (h : ∀ p H2, H p = none → Same H H2 → H2 p = some (.lst (xs ++ ys)) → Q (.ref p) H2) :
    rAdd3 (.ref a) (.ref a') H Q := .inr (.inr ⟨a, a', xs, ys, rfl, rfl, ha, hb, hz, new_same h⟩)
theorem o_mulI {i j : Int} (hc : CMul i j) (h : Q (.int (i * j)) H) : rMul2 (.int i) (.int j) H Q := .inl ⟨i, j, rfl, rfl, hc, h⟩
theorem o_mulI1 {i j : Int} (h1 : -(2 ^ 64) < i) (h2 : i < 2 ^ 64) (h : Q (.int (i * j)) H) : rMul2 (.int i) (.int j) H Q := o_mulI (.inl ⟨h1, h2⟩) h
theorem o_mulI2 {i j : Int} (h1 : -(2 ^ 64) < j) (h2 : j < 2 ^ 64) (h : Q (.int (i * j)) H) : rMul2 (.int i) (.int j) H Q := o_mulI (.inr ⟨h1, h2⟩) h
theorem o_mod {f : Int → Int → V} {i j : Int} (h1 : 0 < j) (h : Q (f i j) H) : rI (fun _ j => 0 < j) f (.int i) (.int j) H Q := ⟨i, j, rfl, rfl, h1, h⟩
theorem o_fdiv {f : Int → Int → V} {i j : Int} (h1 : 0 < j) (h2 : j < 1073741824) (h : Q (f i j) H) : rI CDiv f (.int i) (.int j) H Q := ⟨i, j, rfl, rfl, ⟨h1, h2⟩, h⟩
theorem o_pow {f : Int → Int → V} {i j : Int} (h1 : 0 ≤ j) (h2 : j ≤ 1000000) (h3 : i.natAbs < 2 ^ 64) (h : Q (f i j) H) : rI CPow f (.int i) (.int j) H Q := ⟨i, j, rfl, rfl, ⟨h1, h2, h3⟩, h⟩
theorem o_mulS {z : Str} {k : Int} (h0 : 0 ≤ k) (h1 : k ≤ 1000) (h2 : z.length ≤ 1000) (h : Q (.str (repS z k)) H) : rMul2 (.str z) (.int k) H Q := .inr ⟨z, k, rfl, rfl, h0, h1, h2, h⟩
theorem o_I0 {f : Int → Int → V} {i j : Int} (h : Q (f i j) H) : rI0 f (.int i) (.int j) H Q := ⟨i, j, rfl, rfl, h⟩
theorem o_I {C : Int → Int → Prop} {f : Int → Int → V} {i j : Int} (hc : C i j) (h : Q (f i j) H) : rI C f (.int i) (.int j) H Q := ⟨i, j, rfl, rfl, hc, h⟩
theorem o_eqS (hs : scal x y = true) (h : Q (.bl (decide (x = y))) H) : rEq2 K x y H Q := .inl ⟨hs, h⟩
theorem o_neS (hs : scal x y = true) (h : Q (.bl (!decide (x = y))) H) : rNe2 K x y H Q := .inl ⟨hs, h⟩
theorem o_eqD {d e : PyData} (h1 : Dp K H x d) (h2 : Dp K H y e) (h3 : SeqAt.shaped d = true) (h4 : SeqAt.shaped e = true) (h : Q (.bl (PyData.eqv d e)) H) : rEq2 K x y H Q := .inr ⟨d, e, h1, h2, h3, h4, h⟩
theorem o_neD {d e : PyData} (h1 : Dp K H x d) (h2 : Dp K H y e) (h3 : SeqAt.shaped d = true) (h4 : SeqAt.shaped e = true) (h : Q (.bl (!PyData.eqv d e)) H) : rNe2 K x y H Q := .inr ⟨d, e, h1, h2, h3, h4, h⟩
theorem o_inS {k : Nat} {z : Str} (h : Q (.bl (decide (k ∈ z.cps.toList))) H) : rIn2 K (.str ⟨#[k]⟩) (.str z) H Q := .inl ⟨k, z, rfl, rfl, h⟩
theorem o_niS {k : Nat} {z : Str} (h : Q (.bl (!decide (k ∈ z.cps.toList))) H) : rNi2 K (.str ⟨#[k]⟩) (.str z) H Q := .inl ⟨k, z, rfl, rfl, h⟩
theorem o_inT {a : Addr} {xs : List V} (hs : SqT K H a xs) (hf : flatV x = true) (hg : xs.all flatV = true) (h : Q (.bl (inV x xs)) H) : rIn2 K x (.ref a) H Q := .inr ⟨a, xs, rfl, .inr hs, hf, hg, h⟩
theorem o_inL {a : Addr} {xs : List V} (hs : SqL K H a xs) (hf : flatV x = true) (hg : xs.all flatV = true) (h : Q (.bl (inV x xs)) H) : rIn2 K x (.ref a) H Q := .inr ⟨a, xs, rfl, .inl hs, hf, hg, h⟩
theorem o_niT {a : Addr} {xs : List V} (hs : SqT K H a xs) (hf : flatV x = true) (hg : xs.all flatV = true) (h : Q (.bl (!inV x xs)) H) : rNi2 K x (.ref a) H Q := .inr ⟨a, xs, rfl, .inr hs, hf, hg, h⟩
theorem o_niL {a : Addr} {xs : List V} (hs : SqL K H a xs) (hf : flatV x = true) (hg : xs.all flatV = true) (h : Q (.bl (!inV x xs)) H) : rNi2 K x (.ref a) H Q := .inr ⟨a, xs, rfl, .inl hs, hf, hg, h⟩
def rIsN : R2 := fun x y H Q => y = .non ∧ Q (.bl (decide (x = .non))) H
def rNtN : R2 := fun x y H Q => y = .non ∧ Q (.bl (!decide (x = .non))) H
theorem op_isN2 {X : Cx} : OpR X (compareOp .Is) rIsN := op_isN
theorem op_ntN2 {X : Cx} : OpR X (compareOp .IsNot) rNtN := op_notN
theorem o_isN (h : Q (.bl (decide (x = .non))) H) : rIsN x .non H Q := ⟨rfl, h⟩
theorem o_ntN (h : Q (.bl (!decide (x = .non))) H) : rNtN x .non H Q := ⟨rfl, h⟩
theorem o_ixL {a : Addr} {xs : List V} {j : Int} (hs : SqL K H a xs) (e : atI xs j = some v) (h : Q v H) : rIx K (.ref a) (.int j) H Q := .inl ⟨a, xs, j, v, rfl, rfl, hs, e, h⟩
theorem o_ixT {a : Addr} {xs : List V} {j : Int} (hs : SqT K H a xs) (e : atI xs j = some v) (h : Q v H) : rIx K (.ref a) (.int j) H Q := .inr (.inl ⟨a, xs, j, v, rfl, rfl, hs, e, h⟩)
theorem o_ixS {z : Str} {j : Int} {k : Nat} (hz : z.length ≤ sizeLine) (e : atI z.cps.toList j = some k) (h : Q (.str ⟨#[k]⟩) H) : rIx K (.str z) (.int j) H Q := .inr (.inr ⟨z, j, k, rfl, rfl, hz, e, h⟩)
theorem u_neg {i : Int} {f : Int → V} (h : Q (f i) H) : rU f (.int i) H Q := ⟨i, rfl, h⟩
theorem t_test (h : te σ H fun x H' => KBl x H' QT) : tTest te σ H QT := h
theorem t_b (h : te σ H fun x H' => KBl x H' QT) : tB te σ H QT := h
theorem k_bl (h : QT b H) : KBl (.bl b) H QT := ⟨b, rfl, h⟩
theorem t_tr (h : te σ H fun x H' => KTr K x H' QT) : tTr K te σ H QT := h
theorem k_trB (h : QT b H) : KTr K (.bl b) H QT := ⟨b, rfl, h⟩
theorem k_trN (h : QT false H) : KTr K .non H QT := ⟨false, rfl, h⟩
theorem k_trI {i : Int} (h : QT (i != 0) H) : KTr K (.int i) H QT := ⟨_, rfl, h⟩
theorem k_trL {a : Addr} {xs : List V} (hs : SqL K H a xs) (h : QT (!xs.isEmpty) H) : KTr K (.ref a) H QT := ⟨_, .inl ⟨xs, hs, rfl⟩, h⟩
theorem k_trT {a : Addr} {xs : List V} (hs : SqT K H a xs) (h : QT (!xs.isEmpty) H) : KTr K (.ref a) H QT := ⟨_, .inr (.inl ⟨xs, hs, rfl⟩), h⟩
theorem t_and (h : c σ H fun b H1 => if b = true then c' σ H1 QT else QT false H1) : tAnd c c' σ H QT := h
theorem t_or (h : c σ H fun b H1 => if b = true then QT true H1 else c' σ H1 QT) : tOr c c' σ H QT := h
theorem t_not (h : c σ H fun b H1 => QT (!b) H1) : tNot c σ H QT := h
theorem e_andV (h : ta σ H fun x H1 => KBl x H1 fun b H2 => if b = true then tb σ H2 Q else Q (.bl false) H2) : tAndV ta tb σ H Q := h
theorem e_orV (h : ta σ H fun x H1 => KBl x H1 fun b H2 => if b = true then Q (.bl true) H2 else tb σ H2 Q) : tOrV ta tb σ H Q := h
theorem e_notV (h : ta σ H fun x H1 => KBl x H1 fun b H2 => Q (.bl (!b)) H2) : tNotV ta σ H Q := h
theorem e_if (h : c σ H fun b H1 => if b = true then ta σ H1 Q else tb σ H1 Q) : tIf c ta tb σ H Q := h
theorem e_chain {r r' : R2} {tc : TE} (h : ta σ H fun x H1 => tb σ H1 fun y H2 => r x y H2 fun z H3 => KBl z H3 fun k H3 => if k = true then tc σ H3 fun w' H4 => r' y w' H4 Q else Q (.bl false) H3) : tChain r r' ta tb tc σ H Q := h
theorem a_nil (h : QA [] H) : tNil σ H QA := h
theorem a_cons {tr : TA} (h : te σ H fun x H1 => tr σ H1 fun xs H2 => QA (x :: xs) H2) : tCons te tr σ H QA := h
theorem c_b {r : List V → Hp → VK → Prop} {tl : TA} (h : tl σ H fun vs H1 => r vs H1 Q) : tCB r tl σ H Q := h
theorem c_call {sp : Sp} {dvs : List V} {E : XK} {tl : TA} (h : tl σ H fun vs H1 => sp (vs ++ dvs) H1 Q E) : tCall sp dvs E tl σ H Q := h
theorem b_lenS {z : Str} (hz : z.length ≤ sizeLine) (h : Q (.int z.length) H) : rLn K [.str z] H Q := ⟨_, z.length, rfl, ⟨hz, rfl⟩, h⟩
theorem b_lenL {a : Addr} {xs : List V} (hs : SqL K H a xs) (h : Q (.int xs.length) H) : rLn K [.ref a] H Q := ⟨_, xs.length, rfl, .inl ⟨xs, hs, rfl⟩, h⟩
theorem b_lenT {a : Addr} {xs : List V} (hs : SqT K H a xs) (h : Q (.int xs.length) H) : rLn K [.ref a] H Q := ⟨_, xs.length, rfl, .inr ⟨xs, hs, rfl⟩, h⟩
theorem b_int {i : Int} (h : Q (.int i) H) : rInt [.int i] H Q := .inl (.inl ⟨i, rfl, h⟩)
theorem b_intB (h : Q (.int (if b then 1 else 0)) H) : rInt [.bl b] H Q := .inl (.inr ⟨b, rfl, h⟩)
theorem b_intS {z : Str} {n : Int} (e : PySem.intText? z = some n) (hl : z.length ≤ 640) (h : Q (.int n) H) : rInt [.str z] H Q := .inr ⟨z, n, rfl, e, hl, h⟩
theorem b_abs {i : Int} (h : Q (.int (if i < 0 then -i else i)) H) : rAbs [.int i] H Q := ⟨i, rfl, h⟩
theorem b_isi {n : String} {x : V} {tv : Value} (ty : TyX K H x tv) (h : PySem.W.kitOne K tv (.type n) = some b) (q : Q (.bl b) H) : rIsi K [x, .ty n] H Q := ⟨x, .ty n, tv, .type n, b, rfl, .ty n, ty, h, q⟩
theorem e_tup {tl : TA} (h : tl σ H fun xs H1 => NewO xs.length (.tup xs) H1 Q) : tTup tl σ H Q := h
theorem e_lst {tl : TA} (h : tl σ H fun xs H1 => NewO xs.length (.lst xs) H1 Q) : tLst tl σ H Q := h
theorem n_obj {n : Nat} {o : HO} (hz : n ≤ sizeLine) (h : ∀ p H2, H p = none → Same H H2 → H2 p = some o → Q (.ref p) H2) : NewO n o H Q := ⟨hz, new_same h⟩
theorem e_sl {r : V → Option Int → Option Int → Hp → VK → Prop} {tl th : TO} (h : te σ H fun x H1 => tl σ H1 fun l H2 => th σ H2 fun u H3 => r x l u H3 Q) : tSl r te tl th σ H Q := h
theorem p_no {QO : Option Int → Hp → Prop} (h : QO none H) : tNoPart σ H QO := h
theorem p_so {QO : Option Int → Hp → Prop} (h : te σ H fun x H1 => KInt x H1 QO) : tPart te σ H QO := h
theorem k_int {i : Int} {QO : Option Int → Hp → Prop} (h : QO (some i) H) : KInt (.int i) H QO := ⟨i, rfl, h⟩
theorem l_S {z : Str} {lo hi : Option Int} (hz : z.length ≤ sizeLine) (h : Q (.str (cutS z lo hi)) H) : rSl2 K (.str z) lo hi H Q := .inl ⟨z, rfl, hz, h⟩
theorem l_L {a : Addr} {xs : List V} {lo hi : Option Int} (hs : SqL K H a xs) (h : ∀ p H2, H p = none → Same H H2 → H2 p = some (.lst (cutV xs lo hi)) → Q (.ref p) H2) : rSl2 K (.ref a) lo hi H Q := .inr ⟨a, xs, rfl, hs, new_same h⟩
/-- o.m(..), m of a built-in type -/
theorem m_bm {T : String} {r : V → List V → Hp → VK → Prop} {tl : TA} (h : te σ H fun x H1 => tyV K T x H1 ∧ tl σ H1 fun xs H2 => r x xs H2 Q) : tBM K T r te tl σ H Q := h
theorem m_ty {a : Addr} {xs : List V} {P : Prop} (hs : SqL K H a xs) (h : P) : tyV K "list" (.ref a) H ∧ P := ⟨.inl ⟨rfl, xs, hs⟩, h⟩
theorem m_app {a : Addr} {xs : List V} (e : H a = some (.lst xs)) (hz : xs.length < sizeLine) (h : ∀ H2, Chg a H H2 → H2 a = some (.lst (xs ++ [y])) → Q .non H2) : rAppend (.ref a) [y] H Q := ⟨a, xs, y, rfl, rfl, e, hz, h _ chg_upd upd_same⟩
theorem g_sub {to ti : TE} {ts : TSet} {QS : L2.St → Hp → Prop} (h : to σ H fun o H1 => ti σ H1 fun i H2 => ts o i v H2 fun H3 => QS σ H3) : gSub to ti ts v σ H QS := h
theorem st_L {a : Addr} {xs : List V} {k : Int} {j : Nat} {QH : Hp → Prop} (e : H a = some (.lst xs)) (hj : ixN xs.length k = some j) (h : ∀ H2, Chg a H H2 → H2 a = some (.lst (xs.set j v)) → QH H2) : rSetL (.ref a) (.int k) v H QH := ⟨a, xs, k, j, rfl, rfl, e, hj, h _ chg_upd upd_same⟩
theorem m_m1 {r : V → List V → Hp → VK → Prop} (h : te σ H fun x H1 => (∃ a, x = .str a) ∧ ta σ H1 fun y H2 => r x [y] H2 Q) : tM1 r te ta σ H Q := h
theorem m_st {z : Str} {P : Prop} (h : P) : (∃ a, V.str z = .str a) ∧ P := ⟨⟨z, rfl⟩, h⟩
def rJoin (K : PySem.W.Frag) : V → List V → Hp → VK → Prop := fun x xs H Q => ∃ a p, ∃ ys : List Str, x = .str a ∧ xs = [.ref p] ∧ (SqL K H p (ys.map V.str) ∨ SqT K H p (ys.map V.str)) ∧
  (ys.map (·.length)).sum + ys.length * a.length ≤ 16777216 ∧ Q (.str (Txt.join a ys)) H
theorem pe_join2 {X : Cx} {o e : Expr} {to te : TE} {apos pos : Pos} (ho : PE X o to) (he : PE X e te) (hs : starEach [e] X.env = [(false, eval e X.env)] := by rfl) (hbase : attributeBase o "join" X.env (eval o X.env) = eval o X.env := by rfl) (hline : (apos.endLine == pos.line) = true := by rfl) :
    PE X (.Call (.Attribute o "join" apos) [e] [] pos) (tM1 (rJoin X.K) to te) := pe_join ho he hs hbase hline
theorem m_join {z : Str} {a : Addr} {ys : List Str} (hs : SqL K H a (ys.map V.str)) (hz : (ys.map (·.length)).sum + ys.length * z.length ≤ 16777216) (h : Q (.str (Txt.join z ys)) H) : rJoin K (.str z) [.ref a] H Q := ⟨z, a, ys, rfl, rfl, .inl hs, hz, h⟩
/-! ### loops -/
def LoopF (J : It) (g : TG) (tb : TS) (D : Ends) (σ : L2.St) (H : Hp) : Prop := ∃ W : Nat → Nat → L2.St → Hp → Prop, (∃ m, W 0 m σ H) ∧ ∀ i m σ H, W i m σ H →
  (J.stop i H ∧ D.nx σ H) ∨ (J.go i H ∧ ∃ N : L2.St → Hp → Prop, (∀ σ' H', N σ' H' → ∃ m', m' < m ∧ W (i + 1) m' σ' H') ∧ ∀ x H', J.yld i H x H' → g x σ H' fun σ2 H2 => tb { D with nx := N, ct := N, bk := D.nx } σ2 H2)
theorem s_for {wi : TI} (h : wi σ H fun J H1 => LoopF J g t D σ H1) : tFor wi g t D σ H := h
def LoopC (J : It) (g : TG) (tt : TT) (te : TE) (vs : List Nat) (σ : L2.St) (H1 : Hp) (Q : VK) : Prop := ∀ D, H1 D = none → ∃ W : Nat → Nat → Hp → Prop, (∃ m, W 0 m (upd H1 D (.lst []))) ∧ ∀ i m H, W i m H →
  (J.stop i H ∧ Q (.ref D) H) ∨ (J.go i H ∧ ∃ Nx : Hp → Prop, (∀ H', Nx H' → ∃ m', m' < m ∧ W (i + 1) m' H') ∧ ∀ x H', J.yld i H x H' → g x (wipe σ vs) H' fun σ2 H2 => wipe σ2 vs = wipe σ vs ∧ tt σ2 H2 fun b H3 =>
    if b = true then te σ2 H3 fun y H4 => ∃ acc, H4 D = some (.lst acc) ∧ acc.length < sizeLine ∧ Nx (upd H4 D (.lst (acc ++ [y]))) else Nx H3)
theorem e_lc {wi : TI} {tt : TT} {vs : List Nat} (h : wi σ H fun J H1 => LoopC J g tt te vs σ H1 Q) : tLc wi g tt te vs σ H Q := h
theorem t_yes (h : QT true H) : tYes σ H QT := h
theorem w_r1 {tl : TA} {R : It → Hp → Prop} (h : tl σ H fun vs H1 => KR1 vs H1 R) : iRng1 tl σ H R := h
theorem w_r2 {tl : TA} {R : It → Hp → Prop} (h : tl σ H fun vs H1 => KR2 vs H1 R) : iRng2 tl σ H R := h
theorem k_r1 {j : Int} {R : It → Hp → Prop} (h1 : -(2 ^ 62) ≤ j) (h2 : j < 2 ^ 62) (h : R (Itr 0 j.toNat) H) : KR1 [.int j] H R := ⟨j, rfl, h1, h2, h⟩
theorem k_r2 {i j : Int} {R : It → Hp → Prop} (h1 : -(2 ^ 62) ≤ i ∧ i < 2 ^ 62 ∧ -(2 ^ 62) ≤ j ∧ j < 2 ^ 62) (h : R (Itr i (j - i).toNat) H) : KR2 [.int i, .int j] H R := ⟨i, j, rfl, h1, h⟩
theorem w_l {R : It → Hp → Prop} (h : te σ H fun x H1 => KL K x H1 R) : iList K te σ H R := h
theorem k_l {a : Addr} {xs : List V} {R : It → Hp → Prop} (hs : SqL K H a xs) (h : R (Itl K a) H) : KL K (.ref a) H R := ⟨a, rfl, ⟨xs, hs⟩, h⟩
theorem w_t {R : It → Hp → Prop} (h : te σ H fun x H1 => KT K x H1 R) : iTup K te σ H R := h
theorem k_t {a : Addr} {xs : List V} {R : It → Hp → Prop} (hs : SqT K H a xs) (h : R (Itt K a) H) : KT K (.ref a) H R := ⟨a, rfl, ⟨xs, hs⟩, h⟩
theorem f_range {lo : Int} {n : Nat} (Pv : Nat → L2.St → Hp → Prop) (h0 : Pv 0 σ H)
    (hs : ∀ i σ H, i < n → Pv i σ H → g (.int (lo + i)) σ H fun σ2 H2 => t ⟨Pv (i + 1), D.rt, D.nx, Pv (i + 1)⟩ σ2 H2) (hd : ∀ σ H, Pv n σ H → D.nx σ H) : LoopF (Itr lo n) g t D σ H := for_range Pv h0 hs hd
theorem f_list {a : Addr} {xs : List V} (Pv : Nat → L2.St → Hp → Prop) (h0 : Pv 0 σ H) (hl : ∀ i σ H, i ≤ xs.length → Pv i σ H → SqL K H a xs)
    (hs : ∀ i x σ H, xs[i]? = some x → Pv i σ H → g x σ H fun σ2 H2 => t ⟨Pv (i + 1), D.rt, D.nx, Pv (i + 1)⟩ σ2 H2) (hd : ∀ σ H, Pv xs.length σ H → D.nx σ H) : LoopF (Itl K a) g t D σ H := for_list Pv h0 hl hs hd
theorem f_tup {a : Addr} {xs : List V} (Pv : Nat → L2.St → Hp → Prop) (h0 : Pv 0 σ H) (hl : ∀ i σ H, i ≤ xs.length → Pv i σ H → SqT K H a xs)
    (hs : ∀ i x σ H, xs[i]? = some x → Pv i σ H → g x σ H fun σ2 H2 => t ⟨Pv (i + 1), D.rt, D.nx, Pv (i + 1)⟩ σ2 H2) (hd : ∀ σ H, Pv xs.length σ H → D.nx σ H) : LoopF (Itt K a) g t D σ H := for_tup Pv h0 hl hs hd
/-- a text, sign by sign -/
theorem w_s {R : It → Hp → Prop} (h : te σ H fun x H1 => KS x H1 R) : iStr te σ H R := h
theorem k_s {z : Str} {R : It → Hp → Prop} (h : R (Its z) H) : KS (.str z) H R := ⟨z, rfl, h⟩
theorem f_str {z : Str} (Pv : Nat → L2.St → Hp → Prop) (h0 : Pv 0 σ H)
    (hs : ∀ i k σ H, z.cps.toList[i]? = some k → Pv i σ H → g (.str ⟨#[k]⟩) σ H fun σ2 H2 => t ⟨Pv (i + 1), D.rt, D.nx, Pv (i + 1)⟩ σ2 H2) (hd : ∀ σ H, Pv z.cps.toList.length σ H → D.nx σ H) : LoopF (Its z) g t D σ H := by
  refine ⟨fun i m σ H => m = z.cps.toList.length - i ∧ i ≤ z.cps.toList.length ∧ Pv i σ H, ⟨_, rfl, Nat.zero_le _, h0⟩, ?_⟩
  rintro i m σ H ⟨rfl, hi, p⟩
  by_cases hlt : i < z.cps.toList.length
  · refine .inr ⟨show i < z.cps.size by simpa using hlt, Pv (i + 1), fun σ' H' p' => ⟨z.cps.toList.length - (i + 1), by omega, rfl, hlt, p'⟩, fun x H' y => ?_⟩
    obtain ⟨rfl, k, e, rfl⟩ := y
    exact hs i k σ _ (by simpa using e) p
  · have e : i = z.cps.toList.length := by omega
    subst e
    exact .inl ⟨by simp [Its], hd σ H p⟩
theorem c_range {lo : Int} {n : Nat} {vs : List Nat} {tt : TT} (Pv : Addr → Nat → Hp → Prop) (h0 : ∀ D H1, H D = none → Same H H1 → H1 D = some (.lst []) → Pv D 0 H1)
    (hs : ∀ D i H1, i < n → H D = none → Pv D i H1 → g (.int (lo + i)) (wipe σ vs) H1 fun σ2 H2 => wipe σ2 vs = wipe σ vs ∧ tt σ2 H2 fun b H3 =>
      if b = true then te σ2 H3 fun y H4 => COut D y H4 (Pv D (i + 1)) else Pv D (i + 1) H3) (hd : ∀ D H1, H D = none → Pv D n H1 → Q (.ref D) H1) :
    LoopC (Itr lo n) g tt te vs σ H Q := fun D nD => lc_range (Pv D) (h0 D _ nD (same_new nD) upd_same) (fun i H1 hi p => hs D i H1 hi nD p) fun H1 p => hd D H1 nD p
theorem c_list {a : Addr} {xs : List V} {vs : List Nat} {tt : TT} (Pv : Addr → Nat → Hp → Prop) (h0 : ∀ D H1, H D = none → Same H H1 → H1 D = some (.lst []) → Pv D 0 H1) (hl : ∀ D i H1, i ≤ xs.length → H D = none → Pv D i H1 → SqL K H1 a xs)
    (hs : ∀ D i x H1, xs[i]? = some x → H D = none → Pv D i H1 → g x (wipe σ vs) H1 fun σ2 H2 => wipe σ2 vs = wipe σ vs ∧ tt σ2 H2 fun b H3 =>
      if b = true then te σ2 H3 fun y H4 => COut D y H4 (Pv D (i + 1)) else Pv D (i + 1) H3) (hd : ∀ D H1, H D = none → Pv D xs.length H1 → Q (.ref D) H1) :
    LoopC (Itl K a) g tt te vs σ H Q := fun D nD => lc_list (Pv D) (h0 D _ nD (same_new nD) upd_same) (fun i H1 hi p => hl D i H1 hi nD p) (fun i x H1 hi p => hs D i x H1 hi nD p) fun H1 p => hd D H1 nD p
theorem c_out {D : Addr} {acc : List V} {N : Hp → Prop} (e : H D = some (.lst acc)) (hz : acc.length < sizeLine) (h : ∀ H2, Chg D H H2 → H2 D = some (.lst (acc ++ [y])) → N H2) : COut D y H N := ⟨acc, e, hz, h _ chg_upd upd_same⟩
theorem s_while (W : Nat → L2.St → Hp → Prop) (m0 : Nat) (h0 : W m0 σ H) (hs : ∀ m σ H, W m σ H → c σ H fun b H1 => if b = true then KWh W m t D σ H1 else D.nx σ H1) : tWhile c t D σ H := ⟨W, ⟨m0, h0⟩, hs⟩
theorem k_while {W : Nat → L2.St → Hp → Prop} {m : Nat} (h : t ⟨fun σ' H' => ∃ m', m' < m ∧ W m' σ' H', D.rt, D.nx, fun σ' H' => ∃ m', m' < m ∧ W m' σ' H'⟩ σ H) : KWh W m t D σ H := ⟨_, fun _ _ q => q, h⟩
end
/-! ### a def of the top -/
structure DefOk (K : PySem.W.Frag) (mg : Str → Option Value) (x : Str) (st : Stmt) : Prop where
  ex : ∃ f fd, FunD K x x (defArgs st) (defBody st) (defScope st) [] [] f fd ∧ mg x = some (.ref f)
theorem cal_of {P : Program} {w : World} {K : PySem.W.Frag} {mg : Str → Option Value} {base : Heap} {x : Str} {st : Stmt} {N ps : List Str} {k : Nat} {sp : Sp} (F : DefOk K mg x st) (S : FnScope N ps (defScope st))
    (hb : ∀ f fd, FunD K x x (defArgs st) (defBody st) (defScope st) [] [] f fd → Binds K fd ps []) (len : ∀ vs H Q E, sp vs H Q E → vs.length = ps.length)
    (body : ∀ (f : Addr) (cdv : Value) (A : Around) (outer : List Env) (s : Shared) (H : Hp) (vs : List V) (Q : VK) (E : XK), Room k (A.deeper (envOfC x (defScope st) s.heap.objs.size f cdv)) → sp vs H Q E →
      ∃ t, PSs (cxOf CX0 P w K mg base N x (defScope st) f cdv A outer s H E).nox (defBody st) t ∧ t { nx := fun _ H' => Q .non H', rt := Q } (start N vs) H) : C8.Cal P w K mg base (k + 1) x sp [] := by
  obtain ⟨f, fd, F, hm⟩ := F.ex
  refine ⟨f, fd, ps, [], F.ok S len fun cdv A outer s H vs Q E hr h => ?_, hm, F.kp, hb f fd F, .nil⟩
  obtain ⟨t, h1, h2⟩ := body f cdv A outer s H vs Q E hr h
  exact ⟨t, PSs.nox h1, h2⟩
/-! ### calls without arguments -/
section
variable {X : Cx} {k j : Nat} {x : Str} {sp : Sp} {dvs : List V} {p pos : Pos}
theorem pe_c0 (c : C8.Cal X.prog X.w X.K X.mg X.base k x sp dvs) (hr : Room j X.A) (hk : k ≤ j) (hg : Gl X x) (hdb : (x == ("__debug__" : Str)) = false := by decide) :
    PE X (.Call (.Name x p) [] [] pos) (tCall sp dvs C8.E0 tNil) := by
  obtain ⟨f, fd, ps, ds, F, hm, kp, b, d⟩ := c.ex
  exact pe_call0 F (hr.mono hk) hg hm kp b d pass0 hdb
end
/-! ### a law's own hand of draws -/
def HandAt (H : Hp) (h d : Addr) : Prop := ∃ (n : Int) (ds : List Int), H h = some (.lst [.ref d, .int n]) ∧ 0 ≤ n ∧ H d = some (.lst (ds.map V.int))
/-- a draw below many -/
def spTake : Sp := fun vs H Q _ => ∃ (h d : Addr) (m : Int), vs = [.ref h, .int m] ∧ HandAt H h d ∧ 0 < m ∧ ∀ r H', 0 ≤ r → r < m → Chg h H H' → HandAt H' h d → Q (.int r) H'
theorem HandAt.ne {H : Hp} {h d : Addr} (x : HandAt H h d) : d ≠ h := by
  obtain ⟨n, ds, h1, h2, h3⟩ := x
  intro e
  subst e
  rw [h1] at h3
  cases ds <;> cases h3
theorem HandAt.same {H H' : Hp} {h d : Addr} (s : Same H H') (x : HandAt H h d) : HandAt H' h d := by
  obtain ⟨n, ds, h1, h2, h3⟩ := x
  exact ⟨n, ds, s _ _ h1, h2, s _ _ h3⟩
theorem HandAt.chg {H H' : Hp} {h d D : Addr} (c : Chg D H H') (x : HandAt H h d) (n1 : h ≠ D) (n2 : d ≠ D) : HandAt H' h d := by
  obtain ⟨n, ds, h1, h2, h3⟩ := x
  exact ⟨n, ds, c.at h1 n1, h2, c.at h3 n2⟩
theorem HandAt.new {H : Hp} {h d D : Addr} (x : HandAt H h d) (n : H D = none) : h ≠ D ∧ d ≠ D := by
  obtain ⟨_, ds, h1, h2, h3⟩ := x
  exact ⟨ne_of_none h1 n, ne_of_none h3 n⟩
/-- all but h is kept -/
def Keep (h : Addr) (H H' : Hp) : Prop := ∀ b o, b ≠ h → H b = some o → H' b = some o
theorem Keep.refl (h : Addr) (H : Hp) : Keep h H H := fun _ _ _ e => e
theorem Keep.trans {h : Addr} {H H1 H2 : Hp} (a : Keep h H H1) (b : Keep h H1 H2) : Keep h H H2 := fun c o n e => b c o n (a c o n e)
theorem Chg.keep {h : Addr} {H H' : Hp} (c : Chg h H H') : Keep h H H' := fun b o n e => c.at e n
theorem _root_.L2.Same.keep {h : Addr} {H H' : Hp} (c : Same H H') : Keep h H H' := fun b o _ e => c b o e
theorem Keep.chg {h D : Addr} {H H1 H2 : Hp} (k : Keep h H H1) (c : Chg D H1 H2) (n : H D = none) : Keep h H H2 := fun b o m e => c.at (k b o m e) (ne_of_none e n)
theorem Keep.free {h D : Addr} {H H1 : Hp} (k : Keep h H H1) (n : H1 D = none) (m : D ≠ h) : H D = none := by
  cases q : H D with
  | none => rfl
  | some o =>
    rw [k D o m q] at n
    cases n
theorem Keep.at {h b : Addr} {H H' : Hp} {o : HO} (c : Keep h H H') (e : H b = some o) (n : b ≠ h) : H' b = some o := c b o n e
theorem atI_of {α : Type} {xs : List α} {i : Int} {j : Nat} {v : α} (e : i = (j : Int)) (h : xs[j]? = some v) : atI xs i = some v := by
  subst e
  exact atI_nat h
/-! ### texts -/
theorem joinL_nil : ∀ ps : List (List Nat), TL.joinL [] ps = ps.flatten
  | [] => rfl
  | [p] => by simp [TL.joinL]
  | p :: q :: r => by
    show p ++ ([] ++ TL.joinL [] (q :: r)) = _
    rw [joinL_nil (q :: r)]
    simp
theorem join_empty (ys : List Str) : (Txt.join (Str.ofString "") ys).cps.toList = (ys.map fun y => y.cps.toList).flatten := by
  rw [TL.join_eq]
  have h := TL.tl_join (Str.ofString "") ys
  have e : TL.tl (Str.ofString "") = [] := by decide +kernel
  rw [e, joinL_nil] at h
  exact h
theorem str_len (z : Str) : z.length = z.cps.toList.length := by simp [Str.length]
theorem str_ext {x y : Str} (h : x.cps.toList = y.cps.toList) : x = y := by
  obtain ⟨a⟩ := x
  obtain ⟨b⟩ := y
  have e : a = b := Array.ext' h
  rw [e]
theorem app_len (x y : Str) : (x ++ y).length = x.length + y.length := by
  show (x.cps ++ y.cps).size = x.cps.size + y.cps.size
  simp
theorem app_tl (x y : Str) : (x ++ y).cps.toList = x.cps.toList ++ y.cps.toList := by
  show (x.cps ++ y.cps).toList = x.cps.toList ++ y.cps.toList
  simp
theorem repS_len (z : Str) (k : Int) : (repS z k).length = k.toNat * z.length := by
  unfold repS
  simp [Str.length, List.length_flatten, List.map_replicate, List.sum_replicate_nat]
theorem cutS_nat (z : Str) {i j : Nat} (hi : i ≤ z.length) (hj : j ≤ z.length) : (cutS z (some (i : Int)) (some (j : Int))).cps.toList = (z.cps.toList.drop i).take (j - i) := by
  unfold cutS
  rw [HT.sIx_nat, HT.sIx_nat, Nat.min_eq_left hi, Nat.min_eq_left hj]
theorem cutS_len2 (z : Str) (i : Nat) : (cutS z (some (i : Int)) (some ((i + 2 : Nat) : Int))).length = min (i + 2) z.length - min i z.length := by
  unfold cutS
  rw [HT.sIx_nat, HT.sIx_nat]
  show ((((z.cps.toList.drop (min i z.length)).take (min (i + 2) z.length - min i z.length)).toArray).size) = _
  rw [List.size_toArray, List.length_take, List.length_drop, Array.length_toList]
  show min _ (z.length - _) = _
  omega
/-- the place behind the longest run from i of signs in p -/
def runEnd (cs p : List Nat) (i : Nat) : Nat := i + ((cs.drop i).takeWhile fun c => decide (c ∈ p)).length
theorem runEnd_out {cs p : List Nat} {i : Nat} (h : cs.length ≤ i) : runEnd cs p i = i := by
  unfold runEnd
  rw [List.drop_of_length_le h]
  rfl
theorem runEnd_no {cs p : List Nat} {i c : Nat} (e : cs[i]? = some c) (h : c ∉ p) : runEnd cs p i = i := by
  unfold runEnd
  have hi : i < cs.length := (List.getElem?_eq_some_iff.mp e).1
  rw [List.drop_eq_getElem_cons hi, (List.getElem?_eq_some_iff.mp e).2, List.takeWhile_cons_of_neg (by simpa using h)]
  rfl
theorem runEnd_yes {cs p : List Nat} {i c : Nat} (e : cs[i]? = some c) (h : c ∈ p) : runEnd cs p i = runEnd cs p (i + 1) := by
  unfold runEnd
  have hi : i < cs.length := (List.getElem?_eq_some_iff.mp e).1
  rw [List.drop_eq_getElem_cons hi, (List.getElem?_eq_some_iff.mp e).2, List.takeWhile_cons_of_pos (by simpa using h), List.length_cons]
  omega
theorem runEnd_ge (cs p : List Nat) (i : Nat) : i ≤ runEnd cs p i := Nat.le_add_right _ _
theorem runEnd_le {cs p : List Nat} {i : Nat} (h : i ≤ cs.length) : runEnd cs p i ≤ cs.length := by
  unfold runEnd
  have h1 := (List.takeWhile_prefix (fun c => decide (c ∈ p)) (l := cs.drop i)).length_le
  rw [List.length_drop] at h1
  omega
theorem runEnd_all {cs p : List Nat} : runEnd cs p 0 = cs.length ↔ ∀ c ∈ cs, c ∈ p := by
  unfold runEnd
  rw [List.drop_zero, Nat.zero_add]
  induction cs with
  | nil => simp
  | cons a r ih =>
    by_cases h : a ∈ p
    · rw [List.takeWhile_cons_of_pos (by simpa using h), List.length_cons, List.length_cons, Nat.add_right_cancel_iff, ih]
      simp [h]
    · rw [List.takeWhile_cons_of_neg (by simpa using h)]
      simp [h]
theorem atI_cps {z : Str} {i : Nat} (h : i < z.length) : ∃ c, z.cps.toList[i]? = some c ∧ atI z.cps.toList (i : Int) = some c := by
  have h1 : i < z.cps.toList.length := by rw [← str_len]; exact h
  exact ⟨_, List.getElem?_eq_getElem h1, atI_nat (List.getElem?_eq_getElem h1)⟩
theorem small1000' {n : Nat} (h : n ≤ 100000) : n < sizeLine := Nat.lt_of_le_of_lt h (by decide)
theorem ixN_nat {n j : Nat} (h : j < n) : ixN n (j : Int) = some j := by
  unfold ixN
  rw [if_pos (by omega), if_pos (by omega)]
  simp
/-- one sign, compared -/
theorem sign_eq {c k : Nat} {y : Str} (hy : y = ⟨#[k]⟩) : decide (V.str ⟨#[c]⟩ = V.str y) = true ↔ c = k := by
  rw [decide_eq_true_iff, hy]
  constructor
  · intro e
    injection e with e
    injection e with e
    have e2 := congrArg Array.toList e
    simpa using e2
  · intro e
    rw [e]
theorem snoc_int {H : Hp} {d : Addr} {ds : List Int} {v : Int} (e : H d = some (.lst (ds.map V.int ++ [.int v]))) : ∃ ds' : List Int, H d = some (.lst (ds'.map V.int)) ∧ ds'.length = ds.length + 1 :=
  ⟨ds ++ [v], by rw [e, List.map_append]; rfl, by rw [List.length_append]; rfl⟩
/-- the items are texts of at most m signs -/
def strsB (m : Nat) (xs : List V) : Bool := xs.all fun x => match x with | .str y => decide (y.length ≤ m) | _ => false
theorem item_str (xs : List V) {m : Nat} (h : strsB m xs = true) {j : Nat} (hj : j < xs.length) : ∃ y : Str, xs[j]? = some (.str y) ∧ y.length ≤ m := by
  have h1 := List.all_eq_true.mp h xs[j] (List.getElem_mem hj)
  cases e : xs[j] with
  | str y =>
    rw [e] at h1
    exact ⟨y, by rw [List.getElem?_eq_getElem hj, e], of_decide_eq_true h1⟩
  | _ =>
    rw [e] at h1
    cases h1
theorem fn_of2 {P : Program} {w : World} {K : PySem.W.Frag} {mg : Str → Option Value} {base : Heap} {x : Str} {st : Stmt} {N ps : List Str} {k : Nat} {sp : Sp} {f : Addr} {fd : FuncData} (F : FunD K x x (defArgs st) (defBody st) (defScope st) [] [] f fd) (S : FnScope N ps (defScope st))
    (len : ∀ vs H Q E, sp vs H Q E → vs.length = ps.length)
    (body : ∀ (f : Addr) (cdv : Value) (A : Around) (outer : List Env) (s : Shared) (H : Hp) (vs : List V) (Q : VK) (E : XK), Room k (A.deeper (envOfC x (defScope st) s.heap.objs.size f cdv)) → sp vs H Q E →
      ∃ t, PSs (cxOf CX0 P w K mg base N x (defScope st) f cdv A outer s H E).nox (defBody st) t ∧ t { nx := fun _ H' => Q .non H', rt := Q } (start N vs) H) : FnOk P w K mg base CX0 (k + 1) f fd ps sp :=
  F.ok S len fun cdv A outer s H vs Q E hr h => by
    obtain ⟨t, h1, h2⟩ := body f cdv A outer s H vs Q E hr h
    exact ⟨t, PSs.nox h1, h2⟩
theorem lz {n : Nat} (h : n ≤ 1000) : n ≤ sizeLine := Nat.le_of_lt (small1000 h)
/-! ### more steps -/
def rStrI : List V → Hp → VK → Prop := fun xs H Q => ∃ i, xs = [.int i] ∧ i.natAbs.log2 < 1920 ∧ Q (.str (toString i)) H
theorem call_strI {X : Cx} : CallR X (.type "str") rStrI := call_str_int
def rLst (K : PySem.W.Frag) : List V → Hp → VK → Prop := fun xs H Q => ∃ p ys, xs = [.ref p] ∧ (SqL K H p ys ∨ SqT K H p ys) ∧ ∀ l, H l = none → Q (.ref l) (upd H l (.lst ys))
theorem call_lst {X : Cx} : CallR X (.type "list") (rLst X.K) := call_list_of
def rTpl (K : PySem.W.Frag) : List V → Hp → VK → Prop := fun xs H Q => ∃ p ys, xs = [.ref p] ∧ SqL K H p ys ∧ ∀ l, H l = none → Q (.ref l) (upd H l (.tup ys))
theorem log_small {n : Nat} (h : n < 10 ^ 40) : n.log2 < 1920 := by
  by_cases h0 : n = 0
  · subst h0
    decide
  · rw [Nat.log2_lt h0]
    exact Nat.lt_of_lt_of_le h (by decide +kernel)
def tJoined (ts : List TE) : TE := fun σ H Q => tJs ts Str.empty σ H fun out H1 => Q (.str out) H1
theorem pe_joined2 {X : Cx} {v1 v2 : Expr} {rest : List Expr} {ts : List TE} {pos : Pos} (h : PJ X (v1 :: v2 :: rest) ts) : PE X (.JoinedStr (v1 :: v2 :: rest) pos) (tJoined ts) := pe_joined h
def KJ (x : V) (acc : Str) (ts : List TE) (σ : L2.St) (H : Hp) (Q : Str → Hp → Prop) : Prop := ∃ y : Str, x = .str y ∧ (acc ++ y).length ≤ sizeLine ∧ tJs ts (acc ++ y) σ H Q
def KF (x : V) (H : Hp) (Q : VK) : Prop := (∃ y : Str, x = .str y ∧ y.length ≤ sizeLine ∧ Q (.str y) H) ∨ ∃ i : Int, x = .int i ∧ i.natAbs.log2 < 1920 ∧ Q (.str (toString i)) H
section
variable {K : PySem.W.Frag} {σ : L2.St} {H : Hp} {Q : VK} {QS : L2.St → Hp → Prop} {QJ : Str → Hp → Prop} {te : TE} {ts : List TE} {v : V} {g : TG}
theorem g_tup {u : TGs} {a : Addr} {xs : List V} {n : Nat} (hs : SqT K H a xs) (hl : xs.length = n) (h : u xs σ H QS) : gTup K n u (.ref a) σ H QS := ⟨a, xs, rfl, hs, hl, h⟩
theorem g_cons {u : TGs} {r : List V} (h : g v σ H fun σ' H' => u r σ' H' QS) : gCons g u (v :: r) σ H QS := ⟨v, r, rfl, h⟩
theorem g_nil (h : QS σ H) : gNil [] σ H QS := ⟨rfl, h⟩
theorem b_strI {i : Int} (hz : i.natAbs < 10 ^ 40) (h : Q (.str (toString i)) H) : rStrI [.int i] H Q := ⟨i, rfl, log_small hz, h⟩
theorem b_lst {a : Addr} {xs : List V} (hs : SqL K H a xs) (h : ∀ p H2, H p = none → Same H H2 → H2 p = some (.lst xs) → Q (.ref p) H2) : rLst K [.ref a] H Q := ⟨a, xs, rfl, .inl hs, new_same h⟩
theorem e_joined (h : tJs ts Str.empty σ H fun out H1 => Q (.str out) H1) : tJoined ts σ H Q := h
theorem j_nil {acc : Str} (h : QJ acc H) : tJs [] acc σ H QJ := h
theorem j_cons {acc : Str} (h : te σ H fun x H1 => KJ x acc ts σ H1 QJ) : tJs (te :: ts) acc σ H QJ := h
theorem k_j {acc y : Str} (hz : (acc ++ y).length ≤ sizeLine) (h : tJs ts (acc ++ y) σ H QJ) : KJ (.str y) acc ts σ H QJ := ⟨y, rfl, hz, h⟩
theorem e_fmt (h : te σ H fun x H1 => KF x H1 Q) : tFmt te σ H Q := h
theorem k_fS {y : Str} (hz : y.length ≤ sizeLine) (h : Q (.str y) H) : KF (.str y) H Q := .inl ⟨y, rfl, hz, h⟩
theorem k_fI {i : Int} (hz : i.natAbs < 10 ^ 40) (h : Q (.str (toString i)) H) : KF (.int i) H Q := .inr ⟨i, rfl, log_small hz, h⟩
end
/-! ### data of tuples -/
mutual
inductive Tp (H : Hp) : V → PyData → Prop
  | non : Tp H .non .none
  | bl (b : Bool) : Tp H (.bl b) (.bool b)
  | int (i : Int) : Tp H (.int i) (.int i)
  | str (x : Str) : Tp H (.str x) (.str x)
  | tup {a : Addr} {xs : List V} {ds : List PyData} : H a = some (.tup xs) → TpAll H xs ds → Tp H (.ref a) (.tuple ds)
inductive TpAll (H : Hp) : List V → List PyData → Prop
  | nil : TpAll H [] []
  | cons {v : V} {vs : List V} {d : PyData} {ds : List PyData} : Tp H v d → TpAll H vs ds → TpAll H (v :: vs) (d :: ds)
end
/-- the tuples stay -/
def TK (H H' : Hp) : Prop := ∀ a xs, H a = some (.tup xs) → H' a = some (.tup xs)
theorem TK.refl (H : Hp) : TK H H := fun _ _ e => e
theorem TK.trans {H H1 H2 : Hp} (a : TK H H1) (b : TK H1 H2) : TK H H2 := fun c xs e => b c xs (a c xs e)
theorem _root_.L2.Same.tk {H H' : Hp} (s : Same H H') : TK H H' := fun a xs e => s a _ e
theorem Chg.tk {l : Addr} {H H' : Hp} {ys : List V} (c : Chg l H H') (e : H l = some (.lst ys)) : TK H H' := fun a xs h => c.at h (ne_of h e (by intro z; cases z))
theorem Keep.tk {h : Addr} {H H' : Hp} {ys : List V} (c : Keep h H H') (e : H h = some (.lst ys)) : TK H H' := fun a xs q => c.at q (ne_of q e (by intro z; cases z))
theorem HandAt.keep_tk {h d : Addr} {H H' : Hp} (x : HandAt H h d) (c : Keep h H H') : TK H H' := by
  obtain ⟨n, ds, h1, _, _⟩ := x
  exact c.tk h1
theorem HandAt.chg_tk {h d : Addr} {H H' : Hp} (x : HandAt H h d) (c : Chg h H H') : TK H H' := x.keep_tk c.keep
mutual
theorem Tp.tk {H H' : Hp} (k : TK H H') : ∀ {d : PyData} {v : V}, Tp H v d → Tp H' v d
  | .none, _, h => by cases h; exact .non
  | .bool b, _, h => by cases h; exact .bl b
  | .int i, _, h => by cases h; exact .int i
  | .str x, _, h => by cases h; exact .str x
  | .tuple ds, _, h => by
    cases h with
    | tup e r => exact .tup (k _ _ e) (TpAll.tk k r)
  | .list _, _, h => by cases h
  | .dict _, _, h => by cases h
theorem TpAll.tk {H H' : Hp} (k : TK H H') : ∀ {ds : List PyData} {vs : List V}, TpAll H vs ds → TpAll H' vs ds
  | [], _, h => by cases h; exact .nil
  | d :: ds, _, h => by
    cases h with
    | cons h1 h2 => exact .cons (Tp.tk k h1) (TpAll.tk k h2)
end
mutual
theorem Tp.dp {K : PySem.W.Frag} {H : Hp} : ∀ {d : PyData} {v : V}, Tp H v d → Dp K H v d
  | .none, _, h => by cases h; exact .non
  | .bool b, _, h => by cases h; exact .bl b
  | .int i, _, h => by cases h; exact .int i
  | .str x, _, h => by cases h; exact .str x
  | .tuple ds, _, h => by
    cases h with
    | tup e r => exact .tup (tup_of e) (TpAll.dp r)
  | .list _, _, h => by cases h
  | .dict _, _, h => by cases h
theorem TpAll.dp {K : PySem.W.Frag} {H : Hp} : ∀ {ds : List PyData} {vs : List V}, TpAll H vs ds → DpAll K H vs ds
  | [], _, h => by cases h; exact .nil
  | d :: ds, _, h => by
    cases h with
    | cons h1 h2 => exact .cons (Tp.dp h1) (TpAll.dp h2)
end
theorem TpAll.get {H : Hp} : ∀ {vs : List V} {ds : List PyData} {i : Nat} {d : PyData}, TpAll H vs ds → ds[i]? = some d → ∃ v, vs[i]? = some v ∧ Tp H v d
  | _, _, _, _, .nil, h => by cases h
  | _, _, 0, _, .cons h1 _, h => by
    cases h
    exact ⟨_, rfl, h1⟩
  | _, _, i + 1, _, .cons _ h2, h => by
    obtain ⟨v, e, q⟩ := TpAll.get h2 (i := i) h
    exact ⟨v, e, q⟩
theorem TpAll.length {H : Hp} : ∀ {vs : List V} {ds : List PyData}, TpAll H vs ds → vs.length = ds.length
  | _, _, .nil => rfl
  | _, _, .cons _ h => by rw [List.length_cons, List.length_cons, h.length]
/-- a def that is never called so -/
theorem cal_never {P : Program} {w : World} {K : PySem.W.Frag} {mg : Str → Option Value} {base : Heap} {x : Str} {st : Stmt} {ps : List Str} {k : Nat} {sp : Sp} (F : DefOk K mg x st)
    (hb : ∀ f fd, FunD K x x (defArgs st) (defBody st) (defScope st) [] [] f fd → Binds K fd ps []) (no : ∀ vs H Q E, ¬ sp vs H Q E) : C8.Cal P w K mg base k x sp [] := by
  obtain ⟨f, fd, F, hm⟩ := F.ex
  exact ⟨f, fd, ps, [], ⟨fun vs H Q E h => absurd h (no _ _ _ _), fun A outer s H args us vs Q E hr he hb hv h => absurd h (no _ _ _ _)⟩, hm, F.kp, hb f fd F, .nil⟩
end Wy
open Wy
local macro_rules | `(tactic| walk_at "tr") => `(tactic| first | assumption | exact lst_of (by assumption) | exact tup_of (by assumption) | (refine Same.seq (by assumption) ?_; walk_at "tr") | (refine seqT (by assumption) ?_; walk_at "tr"))
local macro_rules | `(tactic| walk_at "s") => `(tactic| with_reducible first
  | refine s_seq ?_ | refine s_asg ?_ | refine g_name ?_ | refine s_ret ?_ | refine s_retN ?_ | refine s_drop ?_ | refine s_if ?_ | refine s_next ?_ | refine s_brk ?_ | refine s_ct ?_ | refine s_for ?_
  | refine e_var (by with_unfolding_all rfl) ?_ | refine e_c ?_ | refine e_op ?_ | refine e_un ?_ | refine a_cons ?_ | refine a_nil ?_ | refine c_b ?_ | refine c_call ?_ | refine t_test ?_ | refine k_bl ?_ | refine t_b ?_ | refine t_tr ?_ | refine k_trB ?_ | refine k_trN ?_ | refine k_trI ?_
  | refine t_and ?_ | refine t_or ?_ | refine t_not ?_ | refine e_andV ?_ | refine e_orV ?_ | refine e_notV ?_ | refine e_if ?_ | refine e_chain ?_ | refine e_tup ?_ | refine e_lst ?_ | refine e_sl ?_ | refine p_no ?_ | refine p_so ?_ | refine k_int ?_
  | refine m_bm ?_ | refine g_sub ?_ | refine m_m1 ?_ | refine m_st ?_ | refine e_lc ?_ | refine t_yes ?_ | refine w_r1 ?_ | refine w_r2 ?_ | refine w_l ?_ | refine w_t ?_ | refine w_s ?_ | refine k_s ?_
  | refine s_aug (by with_unfolding_all rfl) ?_ | refine i_add ?_ | refine o_addI ?_ | refine o_I0 ?_ | refine b_int ?_ | refine b_intB ?_ | refine b_abs ?_ | refine u_neg ?_ | refine o_isN ?_ | refine o_ntN ?_ | refine o_inS ?_ | refine o_niS ?_
  | refine g_cons ?_ | refine g_nil ?_ | refine e_joined ?_ | refine j_nil ?_ | refine j_cons ?_ | refine e_fmt ?_
  | refine o_mod (by omega) ?_ | refine o_fdiv (by omega) (by omega) ?_ | refine o_pow (by omega) (by omega) (by omega) ?_ | refine o_mulI2 (by omega) (by omega) ?_ | refine o_mulI1 (by omega) (by omega) ?_)
local macro_rules | `(tactic| walk_at "ss") => `(tactic| repeat walk_at "s")
namespace W6
open PySem PySem.Spec PyProof.Rows L2 Wy
theorem uu {a c : Nat} (h : a + 64 < c) : a + 1 < c := by omega
/-! ### a table of the top: texts to tuples -/
def rKd (K : PySem.W.Frag) (d : Addr) : R2 := fun x y H Q => ∃ (z : Str) (u0 : Value) (v0 : V), x = .ref d ∧ y = .str z ∧ PySem.W.nsIn K d z = some (some u0) ∧ RelV v0 u0 ∧ Q v0 H
theorem pe_kd {X : Cx} {d : Addr} {es : Array DictEntry} {n : Nat} {o i : Expr} {pos : Pos} {td ty : TE} (D : KDict X.K X.w d es n) (ho : PE X o td) (hi : PE X i ty) (hs : NoSl i) : PE X (.Subscript o i pos) (tOp (rKd X.K d) td ty) := by
  refine ⟨fun pins s σ H Q I h => ?_⟩
  refine subD_of PySem.F.slot_dict_getitem.lookup hs (thn (ho.run pins s σ H _ I h) fun u s1 ⟨x, H1, I1, rx, q1⟩ => thn (hi.run pins s1 σ H1 _ I1 q1) fun iv s2 ⟨y, H2, I2, ry, q2⟩ => ?_)
  have q3 := q2
  obtain ⟨z, u0, v0, ex, ey, e, r, q⟩ := q2
  subst ex
  have ru : u = Value.ref d := rx
  subst ru
  exact ⟨kd_type D I2, op_item_kd D pins s2 σ H2 (.ref d) y _ iv Q I2 rfl ry q3⟩
def tupAt (K : PySem.W.Frag) (o : Option Obj) (vs : List V) : Bool := match o with
  | some ⟨.type c, none, .seq its _, _⟩ => decide (c = "tuple") && (decide (its.size ≤ sizeLine) && He.relAll vs its.toList)
  | _ => false
def keyB (K : PySem.W.Frag) (d : Addr) (z : Str) (vs : List V) : Bool := match PySem.W.nsIn K d z with
  | some (some (.ref t)) => tupAt K (K.lookup t) vs
  | _ => false
theorem tupAt_ok {K : PySem.W.Frag} {t : Addr} {vs : List V} (h : tupAt K (K.lookup t) vs = true) (H : Hp) : SqT K H t vs := by
  unfold tupAt at h
  split at h
  · rename_i c its n sl e
    obtain ⟨h1, h2⟩ := He.ba h
    obtain ⟨h3, h4⟩ := He.ba h2
    exact .inr ⟨_, its, n, e, congrArg Value.type (of_decide_eq_true h1), rfl, of_decide_eq_true h3, He.relAll_ok h4⟩
  · cases h
theorem keyB_ok {K : PySem.W.Frag} {d : Addr} {z : Str} {vs : List V} (h : keyB K d z vs = true) : ∃ t, PySem.W.nsIn K d z = some (some (.ref t)) ∧ ∀ H, SqT K H t vs := by
  unfold keyB at h
  split at h
  · rename_i t e
    exact ⟨t, e, fun H => tupAt_ok h H⟩
  · cases h
theorem o_kd {K : PySem.W.Frag} {H : Hp} {Q : VK} {d t : Addr} {z : Str} (e : PySem.W.nsIn K d z = some (some (.ref t))) (q : Q (.ref t) H) : rKd K d (.ref d) (.str z) H Q := ⟨z, _, .ref t, rfl, rfl, e, rfl, q⟩
def rTup (K : PySem.W.Frag) : List V → Hp → VK → Prop := fun xs H Q => ∃ p ys, xs = [.ref p] ∧ ((SqL K H p ys ∧ ∀ l, H l = none → Q (.ref l) (upd H l (.tup ys))) ∨ (SqT K H p ys ∧ Q (.ref p) H))
theorem call_tup2 {X : Cx} : CallR X (.type "tuple") (rTup X.K) := call_tuple_of
theorem b_tup {K : PySem.W.Frag} {H : Hp} {Q : VK} {a : Addr} {xs : List V} (hs : SqL K H a xs) (h : ∀ p H2, H p = none → Same H H2 → H2 p = some (.tup xs) → Q (.ref p) H2) : rTup K [.ref a] H Q := ⟨a, xs, rfl, .inl ⟨hs, new_same h⟩⟩
end W6
namespace WM
open PySem PySem.Spec PyProof.Rows L2 Wy
abbrev LONG : List V := [.str "<=", .str ">=", .str "==", .str "!="]
abbrev RESV : List V := [.str "input", .str "from", .str "to", .str "list", .str "def", .str "let", .str "if", .str "else", .str "end", .str "while", .str "at", .str "most", .str "check", .str "refuse", .str "answer", .str "return", .str "skip", .str "and", .str "or", .str "not", .str "row", .str "yes", .str "no", .str "turn", .str "fault", .str "when", .str "then"]
/-! ### the mathematics -/
abbrev LET : Str := "abcdefghijklmnopqrstuvwxyz"
abbrev DIG : Str := "0123456789"
abbrev SHO : Str := "<>=+-()[],:"
abbrev tl (z : Str) : List Nat := z.cps.toList
/-- two signs at i that are one word -/
def pairAt (z : Str) (i : Nat) : Bool := inV (.str (cutS z (some (i : Int)) (some ((i + 2 : Nat) : Int)))) LONG
theorem pair_len {z : Str} {i : Nat} (h : pairAt z i = true) : i + 2 ≤ z.length := by
  unfold pairAt inV at h
  have hl := cutS_len2 z i
  have h2 : (cutS z (some (i : Int)) (some ((i + 2 : Nat) : Int))).length = 2 := by
    simp only [List.any_cons, List.any_nil, Bool.or_false, Bool.or_eq_true] at h
    have key : ∀ w : Str, w.length = 2 → eqV (.str w) (.str (cutS z (some (i : Int)) (some ((i + 2 : Nat) : Int)))) = true → (cutS z (some (i : Int)) (some ((i + 2 : Nat) : Int))).length = 2 := fun w hw e => by
      have e2 : (w == cutS z (some (i : Int)) (some ((i + 2 : Nat) : Int))) = true := e
      rw [← eq_of_beq e2]
      exact hw
    rcases h with h | h | h | h
    · exact key _ (by decide +kernel) h
    · exact key _ (by decide +kernel) h
    · exact key _ (by decide +kernel) h
    · exact key _ (by decide +kernel) h
  omega
/-- the place behind the word that begins at i with the sign c -/
def wordEnd (z : Str) (i c : Nat) : Nat :=
  if c ∈ tl LET then runEnd (tl z) (tl LET) i else if c ∈ tl DIG then runEnd (tl z) (tl DIG) i else if pairAt z i = true then i + 2 else if c ∈ tl SHO then i + 1 else i
theorem wordEnd_ge (z : Str) (i c : Nat) : i ≤ wordEnd z i c := by
  unfold wordEnd
  split
  · exact runEnd_ge _ _ _
  · split
    · exact runEnd_ge _ _ _
    · split
      · omega
      · split <;> omega
theorem wordEnd_le {z : Str} {i c : Nat} (e : (tl z)[i]? = some c) : wordEnd z i c ≤ z.length := by
  have hi : i < (tl z).length := (List.getElem?_eq_some_iff.mp e).1
  have hl : z.length = (tl z).length := str_len z
  unfold wordEnd
  split
  · rw [hl]
    exact runEnd_le (Nat.le_of_lt hi)
  · split
    · rw [hl]
      exact runEnd_le (Nat.le_of_lt hi)
    · split
      · rename_i h
        exact pair_len h
      · split <;> omega
def scan (z : Str) : Nat → Nat → List Str → Option (List Str)
  | 0, _, acc => some acc
  | n + 1, i, acc => match (tl z)[i]? with
    | none => some acc
    | some c => if c = 32 then scan z n (i + 1) acc else if wordEnd z i c = i then none else scan z n (wordEnd z i c) (acc ++ [cutS z (some (i : Int)) (some (wordEnd z i c : Int))])
theorem scan_out {z : Str} {n i : Nat} {acc : List Str} (h : z.length ≤ i) : scan z n i acc = some acc := by
  cases n with
  | zero => rfl
  | succ n =>
    have e : (tl z)[i]? = none := List.getElem?_eq_none_iff.mpr (by rw [str_len] at h; exact h)
    unfold scan
    rw [e]
theorem scan_fuel {z : Str} : ∀ {n m i : Nat} {acc : List Str}, z.length - i ≤ n → z.length - i ≤ m → scan z n i acc = scan z m i acc
  | 0, m, i, acc, h, _ => by
    rw [scan_out (n := m) (by omega)]
    rfl
  | n + 1, 0, i, acc, _, h => by
    rw [scan_out (n := n + 1) (by omega)]
    rfl
  | n + 1, m + 1, i, acc, h1, h2 => by
    unfold scan
    cases e : (tl z)[i]? with
    | none => rfl
    | some c =>
      have hi : i < z.length := by
        rw [str_len]
        exact (List.getElem?_eq_some_iff.mp e).1
      show (if c = 32 then _ else if _ then _ else _) = (if c = 32 then _ else if _ then _ else _)
      split
      · exact scan_fuel (by omega) (by omega)
      · split
        · rfl
        · have g := wordEnd_ge z i c
          exact scan_fuel (by omega) (by omega)
/-- the words from i on, behind those found -/
def from_ (z : Str) (i : Nat) (acc : List Str) : Option (List Str) := scan z (z.length - i) i acc
theorem from_out {z : Str} {i : Nat} {acc : List Str} (h : z.length ≤ i) : from_ z i acc = some acc := scan_out h
theorem from_step {z : Str} {i c : Nat} {acc : List Str} (e : (tl z)[i]? = some c) :
    from_ z i acc = if c = 32 then from_ z (i + 1) acc else if wordEnd z i c = i then none else from_ z (wordEnd z i c) (acc ++ [cutS z (some (i : Int)) (some (wordEnd z i c : Int))]) := by
  have hi : i < z.length := by
    rw [str_len]
    exact (List.getElem?_eq_some_iff.mp e).1
  unfold from_
  obtain ⟨n, hn⟩ : ∃ n, z.length - i = n + 1 := ⟨z.length - i - 1, by omega⟩
  rw [hn]
  show (match (tl z)[i]? with | none => some acc | some c => if c = 32 then scan z n (i + 1) acc else if wordEnd z i c = i then none else scan z n (wordEnd z i c) (acc ++ [cutS z (some (i : Int)) (some (wordEnd z i c : Int))])) = _
  rw [e]
  have g := wordEnd_ge z i c
  show (if c = 32 then _ else if _ then _ else _) = (if c = 32 then _ else if _ then _ else _)
  split
  · exact scan_fuel (by omega) (by omega)
  · split
    · rfl
    · exact scan_fuel (by omega) (by omega)
def wordsW (z : Str) : Option (List Str) := from_ z 0 []
def nameW (z : Str) : Bool := decide (1 ≤ z.length) && decide (z.length ≤ 12) && !inV (.str z) RESV && decide (∀ c ∈ tl z, c ∈ tl LET)
def numberW (z : Str) : Bool := decide (1 ≤ z.length) && decide (z.length ≤ 10) && (decide (∀ c ∈ tl z, c ∈ tl DIG)) && (decide (z.length = 1) || !decide ((tl z)[0]? = some 48))
/-! ### more of the mathematics -/
theorem scan_words {z : Str} : ∀ {n i : Nat} {acc ws : List Str}, scan z n i acc = some ws → acc.length ≤ i → i ≤ z.length → (∀ y ∈ acc, y.length ≤ z.length) → ws.length ≤ z.length ∧ ∀ y ∈ ws, y.length ≤ z.length
  | 0, i, acc, ws, h, l, hi, ha => by
    have e : acc = ws := Option.some.inj h
    rw [← e]
    exact ⟨by omega, ha⟩
  | n + 1, i, acc, ws, h, l, hi, ha => by
    unfold scan at h
    cases e : (tl z)[i]? with
    | none =>
      rw [e] at h
      have e : acc = ws := Option.some.inj h
      rw [← e]
      exact ⟨by omega, ha⟩
    | some c =>
      rw [e] at h
      have hi1 : i < z.length := by
        rw [str_len]
        exact (List.getElem?_eq_some_iff.mp e).1
      have h2 : (if c = 32 then scan z n (i + 1) acc else if wordEnd z i c = i then none else scan z n (wordEnd z i c) (acc ++ [cutS z (some (i : Int)) (some (wordEnd z i c : Int))])) = some ws := h
      have g := wordEnd_ge z i c
      split at h2
      · exact scan_words h2 (by omega) (by omega) ha
      · split at h2
        · cases h2
        · refine scan_words h2 (by rw [List.length_append]; show acc.length + 1 ≤ _; omega) (wordEnd_le e) fun y hy => ?_
          rcases List.mem_append.mp hy with hy | hy
          · exact ha y hy
          · rw [show y = _ by simpa using hy]
            exact cutS_length _ _ _
theorem wordsOf_small {z : Str} {ws : List Str} (h : wordsW z = some ws) : ws.length ≤ z.length ∧ ∀ y ∈ ws, y.length ≤ z.length :=
  scan_words h (Nat.le_refl _) (Nat.zero_le _) (by simp)
theorem pair_cps {z : Str} {i : Nat} : pairAt z i = true ↔ ∃ a, (tl z)[i]? = some a ∧ (tl z)[i + 1]? = some 61 ∧ (a = 60 ∨ a = 62 ∨ a = 61 ∨ a = 33) := by
  have key : ∀ (w : Str) (a : Nat), tl w = [a, 61] → (eqV (.str w) (.str (cutS z (some (i : Int)) (some ((i + 2 : Nat) : Int)))) = true ↔ (tl z)[i]? = some a ∧ (tl z)[i + 1]? = some 61) := fun w a hw => by
    have e1 : eqV (.str w) (.str (cutS z (some (i : Int)) (some ((i + 2 : Nat) : Int)))) = (w == cutS z (some (i : Int)) (some ((i + 2 : Nat) : Int))) := rfl
    rw [e1, beq_iff_eq]
    constructor
    · intro e
      have hl := cutS_len2 z i
      have h2 : (cutS z (some (i : Int)) (some ((i + 2 : Nat) : Int))).length = 2 := by
        rw [← e, str_len]
        show (tl w).length = 2
        rw [hw]
        rfl
      have h3 : i + 2 ≤ z.length := by omega
      have h4 := cutS_nat z (i := i) (j := i + 2) (by omega) h3
      rw [← e, show w.cps.toList = [a, 61] from hw, show i + 2 - i = 2 by omega] at h4
      have h5 : ((tl z).drop i)[0]? = some a := by
        have h6 : (((tl z).drop i).take 2)[0]? = some a := by rw [← h4]; rfl
        rw [List.getElem?_take] at h6
        simpa using h6
      have h7 : ((tl z).drop i)[1]? = some 61 := by
        have h6 : (((tl z).drop i).take 2)[1]? = some 61 := by rw [← h4]; rfl
        rw [List.getElem?_take] at h6
        simpa using h6
      rw [List.getElem?_drop] at h5 h7
      exact ⟨by simpa using h5, h7⟩
    · rintro ⟨h1, h2⟩
      have l1 := (List.getElem?_eq_some_iff.mp h1)
      have l2 := (List.getElem?_eq_some_iff.mp h2)
      obtain ⟨l1, v1⟩ := l1
      obtain ⟨l2, v2⟩ := l2
      have hz : z.length = (tl z).length := str_len z
      refine str_ext ?_
      rw [cutS_nat z (i := i) (j := i + 2) (by omega) (by omega), show w.cps.toList = [a, 61] from hw, show i + 2 - i = 2 by omega]
      show [a, 61] = List.take 2 (List.drop i (tl z))
      rw [List.drop_eq_getElem_cons l1, List.drop_eq_getElem_cons l2, v1, v2]
      rfl
  unfold pairAt inV
  simp only [List.any_cons, List.any_nil, Bool.or_false, Bool.or_eq_true]
  rw [key _ 60 (by decide +kernel), key _ 62 (by decide +kernel), key _ 61 (by decide +kernel), key _ 33 (by decide +kernel)]
  constructor
  · rintro (⟨h, h'⟩ | ⟨h, h'⟩ | ⟨h, h'⟩ | ⟨h, h'⟩)
    · exact ⟨_, h, h', by omega⟩
    · exact ⟨_, h, h', by omega⟩
    · exact ⟨_, h, h', by omega⟩
    · exact ⟨_, h, h', by omega⟩
  · rintro ⟨a, h, h', (rfl | rfl | rfl | rfl)⟩
    · exact .inl ⟨h, h'⟩
    · exact .inr (.inl ⟨h, h'⟩)
    · exact .inr (.inr (.inl ⟨h, h'⟩))
    · exact .inr (.inr (.inr ⟨h, h'⟩))
theorem space_end {z : Str} {i : Nat} (e : (tl z)[i]? = some 32) : wordEnd z i 32 = i := by
  unfold wordEnd
  rw [if_neg (by decide +kernel), if_neg (by decide +kernel), if_neg, if_neg (by decide +kernel)]
  rw [pair_cps]
  rintro ⟨a, h, _, h2⟩
  rw [e] at h
  have : 32 = a := Option.some.inj h
  omega
/-! spaces around a text -/
structure Around_ (z y : Str) (n : Nat) : Prop where
  eq : tl y = List.replicate n 32 ++ tl z ++ [32, 32]
section
variable {z y : Str} {n : Nat}
theorem Around_.at (A : Around_ z y n) {i : Nat} (h : i < (tl z).length) : (tl y)[n + i]? = (tl z)[i]? := by
  rw [A.eq, List.append_assoc, List.getElem?_append_right (by simp), List.length_replicate, Nat.add_sub_cancel_left, List.getElem?_append_left h]
theorem Around_.behind (A : Around_ z y n) {i : Nat} (h : i = (tl z).length ∨ i = (tl z).length + 1) : (tl y)[n + i]? = some 32 := by
  rw [A.eq, List.append_assoc, List.getElem?_append_right (by simp), List.length_replicate, Nat.add_sub_cancel_left, List.getElem?_append_right (by omega)]
  rcases h with rfl | rfl
  · simp
  · rw [Nat.add_sub_cancel_left]
    rfl
theorem Around_.ahead (A : Around_ z y n) {i : Nat} (h : i < n) : (tl y)[i]? = some 32 := by
  rw [A.eq, List.append_assoc, List.getElem?_append_left (by simpa using h), List.getElem?_replicate, if_pos h]
theorem Around_.len (A : Around_ z y n) : y.length = n + z.length + 2 := by
  have hz : z.length = (tl z).length := str_len z
  have hy : y.length = (tl y).length := str_len y
  rw [hy, hz, A.eq, List.length_append, List.length_append, List.length_replicate]
  rfl
theorem Around_.run (A : Around_ z y n) {p : List Nat} (hp : 32 ∉ p) : ∀ {k i : Nat}, k = (tl z).length - i → i ≤ (tl z).length → runEnd (tl y) p (n + i) = n + runEnd (tl z) p i
  | 0, i, hk, hi => by
    have e : i = (tl z).length := by omega
    rw [runEnd_out (cs := tl z) (by omega), runEnd_no (A.behind (.inl e)) hp]
  | k + 1, i, hk, hi => by
    have hi2 : i < (tl z).length := by omega
    have g := A.at hi2
    have e := List.getElem?_eq_getElem hi2
    rw [e] at g
    by_cases h : (tl z)[i] ∈ p
    · rw [runEnd_yes g h, runEnd_yes e h, Nat.add_assoc, A.run hp (k := k) (by omega) (by omega)]
    · rw [runEnd_no g h, runEnd_no e h]
theorem Around_.pair (A : Around_ z y n) {i : Nat} (h : i < (tl z).length) : pairAt y (n + i) = pairAt z i := by
  rw [Bool.eq_iff_iff, pair_cps, pair_cps, A.at h]
  by_cases h2 : i + 1 < (tl z).length
  · rw [Nat.add_assoc, A.at h2]
  · have e1 : (tl y)[n + i + 1]? = some 32 := by
      rw [Nat.add_assoc]
      exact A.behind (.inl (by omega))
    have e2 : (tl z)[i + 1]? = none := List.getElem?_eq_none_iff.mpr (by omega)
    rw [e1, e2]
    constructor
    · rintro ⟨a, _, h, _⟩
      cases h
    · rintro ⟨a, _, h, _⟩
      cases h
theorem Around_.word (A : Around_ z y n) {i c : Nat} (h : i < (tl z).length) : wordEnd y (n + i) c = n + wordEnd z i c := by
  unfold wordEnd
  rw [A.pair h, A.run (by decide +kernel) rfl (Nat.le_of_lt h), A.run (by decide +kernel) rfl (Nat.le_of_lt h)]
  split
  · rfl
  · split
    · rfl
    · split
      · omega
      · split <;> omega
theorem Around_.cut (A : Around_ z y n) {i j : Nat} (h : i ≤ j) (hj : j ≤ z.length) : cutS y (some ((n + i : Nat) : Int)) (some ((n + j : Nat) : Int)) = cutS z (some (i : Int)) (some (j : Int)) := by
  have hl := A.len
  have hz : z.length = (tl z).length := str_len z
  refine str_ext ?_
  rw [cutS_nat y (by omega) (by omega), cutS_nat z (by omega) hj]
  show List.take (n + j - (n + i)) (List.drop (n + i) (tl y)) = List.take (j - i) (List.drop i (tl z))
  rw [A.eq, List.append_assoc, List.drop_append, List.drop_of_length_le (by simp), List.nil_append, List.length_replicate, Nat.add_sub_cancel_left, List.drop_append_of_le_length (by omega), List.take_append_of_le_length (by rw [List.length_drop]; omega), show n + j - (n + i) = j - i by omega]
theorem Around_.go (A : Around_ z y n) : ∀ {k i : Nat} {acc : List Str}, k = z.length - i → i ≤ z.length → from_ y (n + i) acc = from_ z i acc := by
  have hz : z.length = (tl z).length := str_len z
  have hl := A.len
  intro k
  induction k using Nat.strongRecOn with
  | _ k ih =>
    intro i acc hk hi
    by_cases hlt : i < (tl z).length
    · have e := List.getElem?_eq_getElem hlt
      have g := A.at hlt
      rw [e] at g
      rw [from_step g, from_step e, A.word hlt]
      have w1 := wordEnd_ge z i (tl z)[i]
      have w2 := wordEnd_le e
      split
      · rw [Nat.add_assoc]
        exact ih _ (by omega) rfl (by omega)
      · by_cases h2 : wordEnd z i (tl z)[i] = i
        · rw [if_pos (by omega), if_pos h2]
        · rw [if_neg (by omega), if_neg h2, A.cut w1 w2]
          exact ih _ (by omega) rfl (by omega)
    · have e : i = (tl z).length := by omega
      rw [from_step (A.behind (.inl e)), if_pos rfl, Nat.add_assoc, from_step (A.behind (.inr (by omega))), if_pos rfl, from_out (by omega), from_out (by omega)]
theorem Around_.words (A : Around_ z y n) : wordsW y = wordsW z := by
  have hl := A.len
  have h : ∀ m, m ≤ n → from_ y m [] = from_ y 0 [] := fun m => by
    induction m with
    | zero => intro _; rfl
    | succ m ih =>
      intro hm
      rw [← ih (by omega), from_step (i := m) (A.ahead (by omega)), if_pos rfl]
  unfold wordsW
  rw [← h n (Nat.le_refl _)]
  exact A.go (i := 0) rfl (Nat.zero_le _)
end
theorem around_mk (z : Str) (k : Int) : Around_ z (repS (" " : Str) k ++ z ++ ("  " : Str)) k.toNat := by
  refine ⟨?_⟩
  show ((repS (" " : Str) k ++ z ++ ("  " : Str)) : Str).cps.toList = _
  rw [app_tl, app_tl]
  have e1 : (repS (" " : Str) k).cps.toList = List.replicate k.toNat 32 := by
    unfold repS
    have e : ((" " : Str)).cps.toList = [32] := by decide +kernel
    rw [e]
    simp
  have e2 : (("  " : Str)).cps.toList = [32, 32] := by decide +kernel
  rw [e1, e2]
/-! ### the words by what is left -/
def mkS (l : List Nat) : Str := ⟨l.toArray⟩
theorem mkS_tl (l : List Nat) : tl (mkS l) = l := by simp [mkS]
theorem tl_mkS (z : Str) : mkS (tl z) = z := str_ext (by simp [mkS])
abbrev EQS : List Nat := [60, 62, 61, 33]
def wordLen : List Nat → Nat
  | [] => 0
  | c :: r => if c ∈ tl LET then 1 + (r.takeWhile fun d => decide (d ∈ tl LET)).length else if c ∈ tl DIG then 1 + (r.takeWhile fun d => decide (d ∈ tl DIG)).length
    else if r.head? = some 61 ∧ c ∈ EQS then 2 else if c ∈ tl SHO then 1 else 0
theorem wordLen_cons (c : Nat) (r : List Nat) : wordLen (c :: r) = if c ∈ tl LET then 1 + (r.takeWhile fun d => decide (d ∈ tl LET)).length else if c ∈ tl DIG then 1 + (r.takeWhile fun d => decide (d ∈ tl DIG)).length
    else if r.head? = some 61 ∧ c ∈ EQS then 2 else if c ∈ tl SHO then 1 else 0 := rfl
theorem wordLen_le : ∀ l : List Nat, wordLen l ≤ l.length
  | [] => Nat.le_refl _
  | c :: r => by
    show (if c ∈ tl LET then _ else if c ∈ tl DIG then _ else if r.head? = some 61 ∧ c ∈ EQS then 2 else if c ∈ tl SHO then 1 else 0) ≤ (c :: r).length
    have h : ∀ p : Nat → Bool, (r.takeWhile p).length ≤ r.length := fun p => (List.takeWhile_prefix p).length_le
    have h1 := h fun d => decide (d ∈ tl LET)
    have h2 := h fun d => decide (d ∈ tl DIG)
    rw [List.length_cons]
    split
    · omega
    · split
      · omega
      · split
        · rename_i h3
          cases r with
          | nil => simp at h3
          | cons x r => rw [List.length_cons]; omega
        · split <;> omega
theorem wordEnd_len {z : Str} {i c : Nat} (e : (tl z)[i]? = some c) : wordEnd z i c = i + wordLen ((tl z).drop i) := by
  obtain ⟨hi, v⟩ := List.getElem?_eq_some_iff.mp e
  rw [List.drop_eq_getElem_cons hi, v]
  unfold wordEnd
  rw [wordLen_cons]
  have hp : pairAt z i = true ↔ ((tl z).drop (i + 1)).head? = some 61 ∧ c ∈ EQS := by
    rw [pair_cps, List.head?_drop, e]
    constructor
    · rintro ⟨a, h1, h2, h3⟩
      have h1 := Option.some.inj h1
      subst h1
      refine ⟨h2, ?_⟩
      simp only [List.mem_cons, List.not_mem_nil, or_false]
      omega
    · rintro ⟨h1, h2⟩
      refine ⟨c, rfl, h1, ?_⟩
      simp only [List.mem_cons, List.not_mem_nil, or_false] at h2
      omega
  have hr : ∀ p : List Nat, c ∈ p → runEnd (tl z) p i = i + (1 + (((tl z).drop (i + 1)).takeWhile fun d => decide (d ∈ p)).length) := fun p h => by
    unfold runEnd
    rw [List.drop_eq_getElem_cons hi, v, List.takeWhile_cons_of_pos (by simpa using h), List.length_cons]
    omega
  by_cases h1 : c ∈ tl LET
  · rw [if_pos h1, if_pos h1, hr _ h1]
  · rw [if_neg h1, if_neg h1]
    by_cases h2 : c ∈ tl DIG
    · rw [if_pos h2, if_pos h2, hr _ h2]
    · rw [if_neg h2, if_neg h2]
      by_cases h3 : pairAt z i = true
      · rw [if_pos h3, if_pos (hp.mp h3)]
      · rw [if_neg h3, if_neg (fun h => h3 (hp.mpr h))]
        split <;> rfl
def lex : Nat → List Nat → Option (List (List Nat))
  | 0, _ => some []
  | _ + 1, [] => some []
  | n + 1, c :: r => if c = 32 then lex n r else if wordLen (c :: r) = 0 then none else (lex n ((c :: r).drop (wordLen (c :: r)))).map ((c :: r).take (wordLen (c :: r)) :: ·)
theorem lex_nil (n : Nat) : lex n [] = some [] := by
  cases n <;> rfl
theorem lex_fuel : ∀ {n m : Nat} {l : List Nat}, l.length ≤ n → l.length ≤ m → lex n l = lex m l
  | 0, m, l, h, _ => by
    have e : l = [] := List.length_eq_zero_iff.mp (by omega)
    subst e
    rw [lex_nil, lex_nil]
  | n + 1, 0, l, _, h => by
    have e : l = [] := List.length_eq_zero_iff.mp (by omega)
    subst e
    rw [lex_nil, lex_nil]
  | n + 1, m + 1, [], _, _ => rfl
  | n + 1, m + 1, c :: r, h1, h2 => by
    rw [List.length_cons] at h1 h2
    unfold lex
    split
    · exact lex_fuel (by omega) (by omega)
    · split
      · rfl
      · rename_i h3
        have hd : ((c :: r).drop (wordLen (c :: r))).length ≤ r.length := by
          rw [List.length_drop, List.length_cons]
          omega
        rw [lex_fuel (n := n) (m := m) (by omega) (by omega)]
def lexL (l : List Nat) : Option (List (List Nat)) := lex l.length l
theorem lexL_nil : lexL [] = some [] := rfl
theorem lexL_space (r : List Nat) : lexL (32 :: r) = lexL r := by
  rfl
theorem lexL_word {c : Nat} {r : List Nat} (h : c ≠ 32) : lexL (c :: r) = if wordLen (c :: r) = 0 then none else (lexL ((c :: r).drop (wordLen (c :: r)))).map ((c :: r).take (wordLen (c :: r)) :: ·) := by
  show (if c = 32 then lex r.length r else if wordLen (c :: r) = 0 then none else (lex r.length ((c :: r).drop (wordLen (c :: r)))).map ((c :: r).take (wordLen (c :: r)) :: ·)) = _
  rw [if_neg h]
  split
  · rfl
  · rename_i h3
    have hd : ((c :: r).drop (wordLen (c :: r))).length ≤ r.length := by
      rw [List.length_drop, List.length_cons]
      omega
    unfold lexL
    rw [lex_fuel hd (Nat.le_refl _)]
theorem lexL_spaces : ∀ (n : Nat) (r : List Nat), lexL (List.replicate n 32 ++ r) = lexL r
  | 0, r => rfl
  | n + 1, r => by
    rw [List.replicate_succ, List.cons_append, lexL_space, lexL_spaces n r]
theorem from_lex {z : Str} : ∀ {k i : Nat} {acc : List Str}, k = z.length - i → i ≤ z.length → from_ z i acc = (lexL ((tl z).drop i)).map fun ws => acc ++ ws.map mkS := by
  have hz : z.length = (tl z).length := str_len z
  intro k
  induction k using Nat.strongRecOn with
  | _ k ih =>
    intro i acc hk hi
    by_cases hlt : i < (tl z).length
    · have e := List.getElem?_eq_getElem hlt
      have hd := List.drop_eq_getElem_cons hlt
      rw [from_step e, wordEnd_len e]
      have w := wordLen_le ((tl z).drop i)
      rw [List.length_drop] at w
      by_cases h : (tl z)[i] = 32
      · rw [if_pos h, hd, h, lexL_space]
        exact ih _ (by omega) rfl (by omega)
      · rw [if_neg h]
        have hx : lexL ((tl z).drop i) = if wordLen ((tl z).drop i) = 0 then none else (lexL (((tl z).drop i).drop (wordLen ((tl z).drop i)))).map (((tl z).drop i).take (wordLen ((tl z).drop i)) :: ·) := by
          rw [hd]
          exact lexL_word h
        rw [hx]
        by_cases h2 : wordLen ((tl z).drop i) = 0
        · rw [if_pos (by omega), if_pos h2]
          rfl
        · rw [if_neg (by omega), if_neg h2, ih _ (by omega) rfl (by omega), List.drop_drop, Option.map_map]
          congr 1
          funext ws
          show acc ++ [_] ++ ws.map mkS = acc ++ (_ :: ws.map mkS)
          rw [List.append_assoc]
          congr 1
          show _ :: ws.map mkS = _ :: ws.map mkS
          congr 1
          refine str_ext ?_
          have e3 := cutS_nat z (i := i) (j := i + wordLen ((tl z).drop i)) (by omega) (by omega)
          rw [e3, Nat.add_sub_cancel_left, show (mkS _).cps.toList = _ from mkS_tl _]
    · have e : i = (tl z).length := by omega
      rw [from_out (by omega), List.drop_of_length_le (by omega)]
      show some acc = some (acc ++ [])
      rw [List.append_nil]
theorem words_lex (z : Str) : wordsW z = (lexL (tl z)).map (·.map mkS) := by
  unfold wordsW
  rw [from_lex (i := 0) rfl (Nat.zero_le _), List.drop_zero]
  congr 1
/-- a text that is one word -/
def joinsC (a c : Nat) : Prop := (a ∈ tl LET ∧ c ∈ tl LET) ∨ (a ∈ tl DIG ∧ c ∈ tl DIG) ∨ (a ∈ EQS ∧ c ∈ EQS)
def okNext (w rest : List Nat) : Prop := rest = [] ∨ ∃ a c r, w.getLast? = some a ∧ rest = c :: r ∧ ¬ joinsC a c
structure IsTok (w : List Nat) : Prop where
  ne : ∃ c r, w = c :: r ∧ c ≠ 32
  len : ∀ rest, okNext w rest → wordLen (w ++ rest) = w.length
theorem lexL_tok {w rest : List Nat} (h : IsTok w) (n : okNext w rest) : lexL (w ++ rest) = (lexL rest).map (w :: ·) := by
  obtain ⟨c, r, e, hc⟩ := h.ne
  have hl := h.len rest n
  subst e
  rw [List.cons_append] at hl ⊢
  rw [lexL_word hc, hl, if_neg (by simp)]
  have e1 : (c :: (r ++ rest)).drop (c :: r).length = rest := by
    rw [← List.cons_append, List.drop_left]
  have e2 : (c :: (r ++ rest)).take (c :: r).length = c :: r := by
    rw [← List.cons_append, List.take_left]
  rw [e1, e2]
theorem takeWhile_run {p : Nat → Bool} {w rest : List Nat} (h : ∀ c ∈ w, p c = true) (n : rest = [] ∨ ∃ c r, rest = c :: r ∧ p c = false) : (w ++ rest).takeWhile p = w := by
  induction w with
  | nil =>
    rcases n with rfl | ⟨c, r, rfl, h2⟩
    · rfl
    · rw [List.nil_append, List.takeWhile_cons_of_neg (by rw [h2]; simp)]
  | cons x w ih =>
    rw [List.cons_append, List.takeWhile_cons_of_pos (h x List.mem_cons_self), ih fun c hc => h c (List.mem_cons_of_mem _ hc)]
theorem getLast_mem' {w : List Nat} {a : Nat} (h : w.getLast? = some a) : a ∈ w := List.mem_of_getLast? h
theorem let32 : ∀ c ∈ tl LET, c ≠ 32 := by decide +kernel
theorem dig32 : ∀ c ∈ tl DIG, c ≠ 32 ∧ c ∉ tl LET := by decide +kernel
theorem sho32 : ∀ c ∈ tl SHO, c ≠ 32 ∧ c ∉ tl LET ∧ c ∉ tl DIG := by decide +kernel
theorem eqs32 : ∀ c ∈ EQS, c ≠ 32 ∧ c ∉ tl LET ∧ c ∉ tl DIG := by decide +kernel
theorem tok_let {w : List Nat} (ne : w ≠ []) (h : ∀ c ∈ w, c ∈ tl LET) : IsTok w := by
  obtain ⟨c, r, rfl⟩ := List.exists_cons_of_ne_nil ne
  have hc := h c List.mem_cons_self
  refine ⟨⟨c, r, rfl, let32 c hc⟩, fun rest n => ?_⟩
  rw [List.cons_append]
  rw [wordLen_cons]
  rw [if_pos hc, takeWhile_run (w := r) (fun d hd => by simpa using h d (List.mem_cons_of_mem _ hd)), List.length_cons, Nat.add_comm]
  rcases n with rfl | ⟨a, d, q, ha, rfl, hn⟩
  · exact .inl rfl
  · exact .inr ⟨d, q, rfl, decide_eq_false fun hd => hn (.inl ⟨h a (getLast_mem' ha), hd⟩)⟩
theorem tok_dig {w : List Nat} (ne : w ≠ []) (h : ∀ c ∈ w, c ∈ tl DIG) : IsTok w := by
  obtain ⟨c, r, rfl⟩ := List.exists_cons_of_ne_nil ne
  have hc := h c List.mem_cons_self
  refine ⟨⟨c, r, rfl, (dig32 c hc).1⟩, fun rest n => ?_⟩
  rw [List.cons_append]
  rw [wordLen_cons]
  rw [if_neg (dig32 c hc).2, if_pos hc, takeWhile_run (w := r) (fun d hd => by simpa using h d (List.mem_cons_of_mem _ hd)), List.length_cons, Nat.add_comm]
  rcases n with rfl | ⟨a, d, q, ha, rfl, hn⟩
  · exact .inl rfl
  · exact .inr ⟨d, q, rfl, decide_eq_false fun hd => hn (.inr (.inl ⟨h a (getLast_mem' ha), hd⟩))⟩
theorem tok_one {c : Nat} (h : c ∈ tl SHO) : IsTok [c] := by
  obtain ⟨h1, h2, h3⟩ := sho32 c h
  refine ⟨⟨c, [], rfl, h1⟩, fun rest n => ?_⟩
  show wordLen (c :: rest) = 1
  rw [wordLen_cons]
  rw [if_neg h2, if_neg h3, if_neg, if_pos h]
  rintro ⟨h4, h5⟩
  rcases n with rfl | ⟨a, d, q, ha, rfl, hn⟩
  · cases h4
  · have e1 : d = 61 := Option.some.inj h4
    have e2 : c = a := Option.some.inj ha
    exact hn (.inr (.inr ⟨e2 ▸ h5, by rw [e1]; decide⟩))
theorem tok_two {c : Nat} (h : c ∈ EQS) : IsTok [c, 61] := by
  obtain ⟨h1, h2, h3⟩ := eqs32 c h
  refine ⟨⟨c, [61], rfl, h1⟩, fun rest n => ?_⟩
  show wordLen (c :: 61 :: rest) = 2
  rw [wordLen_cons]
  rw [if_neg h2, if_neg h3, if_pos ⟨rfl, h⟩]
end WM
namespace W3
open PySem PySem.Spec PyProof.Rows L2 Wy WM
/-! ### numbers as words -/
def dv (z : Str) : Int := ((NumText.digitsVal (tl z) : Nat) : Int)
theorem dig_range : ∀ c ∈ tl DIG, 48 ≤ c ∧ c ≤ 57 := by decide +kernel
theorem dig_mem {c : Nat} (h : 48 ≤ c ∧ c ≤ 57) : c ∈ tl DIG := by
  have : ∀ k, k < 10 → 48 + k ∈ tl DIG := by decide +kernel
  have e := this (c - 48) (by omega)
  rwa [show 48 + (c - 48) = c by omega] at e
theorem number_parts {z : Str} (h : numberW z = true) : 1 ≤ z.length ∧ z.length ≤ 10 ∧ (∀ c ∈ tl z, c ∈ tl DIG) := by
  unfold numberW at h
  simp only [Bool.and_eq_true, decide_eq_true_eq] at h
  exact ⟨h.1.1.1, h.1.1.2, h.1.2⟩
theorem ne_of_len {z : Str} (h : 1 ≤ z.length) : tl z ≠ [] := by
  intro e
  rw [str_len] at h
  rw [show z.cps.toList = [] from e] at h
  simp at h
theorem number_int {z : Str} (h : numberW z = true) : intText? z = some (dv z) ∧ z.length ≤ 640 := by
  obtain ⟨h1, h2, h3⟩ := number_parts h
  exact ⟨intText_digits (fun c hc => dig_range c (h3 c hc)) (ne_of_len h1) (by omega), by omega⟩
theorem minus_int {z : Str} (h : numberW z = true) : intText? (("-" : Str) ++ z) = some (-dv z) ∧ (("-" : Str) ++ z).length ≤ 640 := by
  obtain ⟨h1, h2, h3⟩ := number_parts h
  have hl : (("-" : Str) ++ z).length = 1 + z.length := app_len _ _
  exact ⟨intText_neg (cs := tl z) (by rw [app_tl]; rfl) (fun c hc => dig_range c (h3 c hc)) (ne_of_len h1) (by omega), by omega⟩
open NumText in
theorem plus_int {z : Str} (h : numberW z = true) : intText? (("+" : Str) ++ z) = some (dv z) ∧ (("+" : Str) ++ z).length ≤ 640 := by
  obtain ⟨g1, g2, g3⟩ := number_parts h
  have hl : (("+" : Str) ++ z).length = 1 + z.length := app_len _ _
  have hd : AllDigits (tl z) := fun c hc => dig_range c (g3 c hc)
  have hx : (("+" : Str) ++ z).cps.toList = 43 :: tl z := by rw [app_tl]; rfl
  have h1 : tl z ≠ [] := ne_of_len g1
  refine ⟨?_, by omega⟩
  have lo : ∀ c ∈ (("+" : Str) ++ z).cps.toList, c ≠ 0 ∧ c < 128 := by
    rw [hx]
    intro c hc
    rcases List.mem_cons.mp hc with e | hc
    · omega
    · have := hd c hc
      omega
  have e1 : numTextOf (("+" : Str) ++ z) = (("+" : Str) ++ z).cps.toList := if_pos (by
    rw [← Array.all_toList, List.all_eq_true]
    exact fun c hc => decide_eq_true (lo c hc).2)
  have e2 : numSeenOf (("+" : Str) ++ z) = (("+" : Str) ++ z).cps.toList := by
    show (numTextOf (("+" : Str) ++ z)).takeWhile _ = _
    rw [e1]
    exact takeWhile_all fun c hc => bne_iff_ne.mpr (lo c hc).1
  have es : sign ((43 :: tl z).dropWhile blank) = (false, tl z) := by rw [dropWhile_of (by decide)]; rfl
  have ec : core (43 :: tl z) = tl z := by
    unfold core
    rw [es]
    show ((tl z).reverse.dropWhile blank).reverse = tl z
    rw [dropWhile_digits hd.reverse, List.reverse_reverse]
  unfold intText?
  rw [e1, e2, hx, if_pos (beq_self_eq_true _), ec, es, digits_of hd h1]
  have hsz := push_size (tl z) #[]
  have hv := push_foldl (tl z) #[]
  have hzl : (tl z).length = z.length := (str_len z).symm
  show (if _ ≤ 4300 then some (worth false _) else none) = _
  rw [if_pos (by rw [hsz]; simp only [Array.size_empty]; omega)]
  unfold worth dv digitsVal
  rw [hv]
  rfl
/-- a number's text -/
def numS (n : Nat) : Str := Str.ofString (toString ((n : Nat) : Int))
theorem numS_tl (n : Nat) : tl (numS n) = TL.numL n := TL.tl_num n
theorem numL_head {n : Nat} (h : 0 < n) : (TL.numL n)[0]? ≠ some 48 := by
  induction n using Nat.strongRecOn with
  | _ n ih =>
    by_cases h10 : n < 10
    · rw [TL.numL_lt h10]
      intro e
      have : 48 + n = 48 := Option.some.inj e
      omega
    · rw [TL.numL_step (by omega)]
      intro e
      have hne := TL.numL_ne (n / 10)
      rw [List.getElem?_append_left (List.length_pos_iff.mpr hne)] at e
      exact ih (n / 10) (by omega) (by omega) e
theorem numS_len {n : Nat} (h : n < 10 ^ 10) : 1 ≤ (numS n).length ∧ (numS n).length ≤ 10 := by
  rw [str_len]
  show 1 ≤ (tl (numS n)).length ∧ (tl (numS n)).length ≤ 10
  rw [numS_tl]
  exact ⟨List.length_pos_iff.mpr (TL.numL_ne n), TL.numL_len (by decide) h⟩
theorem numS_number {n : Nat} (h : n < 10 ^ 10) : numberW (numS n) = true := by
  obtain ⟨h1, h2⟩ := numS_len h
  unfold numberW
  rw [decide_eq_true h1, decide_eq_true h2, numS_tl, decide_eq_true (fun c hc => dig_mem (TL.numL_digits n c hc))]
  by_cases h0 : n = 0
  · subst h0
    decide +kernel
  · rw [decide_eq_false (numL_head (by omega))]
    simp
theorem numS_dv (n : Nat) : dv (numS n) = n := by
  unfold dv
  rw [numS_tl, TL.numL_val]
theorem toStr_nat {i : Int} (h : 0 ≤ i) : Str.ofString (toString i) = numS i.toNat := by
  unfold numS
  rw [Int.toNat_of_nonneg h]
theorem name_parts {z : Str} (h : nameW z = true) : 1 ≤ z.length ∧ z.length ≤ 12 ∧ inV (.str z) RESV = false ∧ ∀ c ∈ tl z, c ∈ tl LET := by
  unfold nameW at h
  simp only [Bool.and_eq_true, decide_eq_true_eq, Bool.not_eq_true'] at h
  exact ⟨h.1.1.1, h.1.1.2, h.1.2, h.2⟩
theorem name_not_number {z : Str} (h : nameW z = true) : numberW z = false := by
  cases e : numberW z with
  | false => rfl
  | true =>
    obtain ⟨h1, _, _, h4⟩ := name_parts h
    obtain ⟨_, _, g3⟩ := number_parts e
    obtain ⟨c, r, e⟩ := List.exists_cons_of_ne_nil (ne_of_len h1)
    have a := h4 c (by rw [e]; exact List.mem_cons_self)
    have b := g3 c (by rw [e]; exact List.mem_cons_self)
    exact absurd a (dig32 c b).2
theorem name_ne {z y : Str} (h : nameW z = true) (hy : nameW y = false) : z ≠ y := by
  intro e
  rw [e, hy] at h
  cases h
theorem number_ne {z y : Str} (h : numberW z = true) (hy : numberW y = false) : z ≠ y := by
  intro e
  rw [e, hy] at h
  cases h
/-! ### expressions -/
inductive Ex where
  | num (n : Int)
  | var (x : Str) (p : Int)
  | item (x : Str) (i : Ex) (p : Int)
  deriving DecidableEq
def Ex.d : Ex → PyData
  | .num n => .tuple [.str "num", .int n]
  | .var x p => .tuple [.str "var", .str x, .int p]
  | .item x i p => .tuple [.str "item", .str x, i.d, .int p]
def wordAt (ws : List Str) (i : Nat) : Str := ws.getD i ""
def takeSigned (ws : List Str) (i : Nat) : Option (Int × Nat) :=
  if numberW (wordAt ws i) = true then some (dv (wordAt ws i), i + 1) else if wordAt ws i = "-" ∧ numberW (wordAt ws (i + 1)) = true then some (-dv (wordAt ws (i + 1)), i + 2) else none
def takePlus (ws : List Str) (i : Nat) : Option (Int × Nat) :=
  if wordAt ws i = "+" ∨ wordAt ws i = "-" then (if numberW (wordAt ws (i + 1)) = true then some (if wordAt ws i = "+" then dv (wordAt ws (i + 1)) else -dv (wordAt ws (i + 1)), i + 2) else none) else some (0, i)
def takePlain (ws : List Str) (i : Nat) : Option (Ex × Nat) :=
  if nameW (wordAt ws i) = true then (match takePlus ws (i + 1) with | none => none | some (p, j) => some (.var (wordAt ws i) p, j))
  else (match takeSigned ws i with | none => none | some (n, j) => some (.num n, j))
def takeExpr (ws : List Str) (i : Nat) : Option (Ex × Nat) :=
  if nameW (wordAt ws i) = true ∧ wordAt ws (i + 1) = "[" then (match takePlain ws (i + 2) with
    | none => none
    | some (x, j) => if wordAt ws j = "]" then (match takePlus ws (j + 1) with | none => none | some (p, k) => some (.item (wordAt ws i) x p, k)) else none)
  else takePlain ws i
def wholeE (t : Option (Ex × Nat)) (n : Nat) : Option Ex := match t with
  | none => none
  | some (e, j) => if j = n then some e else none
def readW (ws : List Str) : Option Ex := wholeE (takeExpr ws 0) ws.length
def iD : Option (Int × Nat) → PyData
  | none => .none
  | some (n, j) => .tuple [.int n, .int (j : Int)]
def eD : Option (Ex × Nat) → PyData
  | none => .none
  | some (e, j) => .tuple [e.d, .int (j : Int)]
def oD : Option Ex → PyData
  | none => .none
  | some e => e.d
theorem wordAt_in {ws : List Str} {i : Nat} (h : i < ws.length) : wordAt ws i = ws[i] := by
  unfold wordAt
  rw [List.getD_eq_getElem?_getD, List.getElem?_eq_getElem h]
  rfl
theorem wordAt_out {ws : List Str} {i : Nat} (h : ws.length ≤ i) : wordAt ws i = "" := by
  unfold wordAt
  rw [List.getD_eq_getElem?_getD, List.getElem?_eq_none h]
  rfl
theorem wordAt_lt {ws : List Str} {i : Nat} (h : wordAt ws i ≠ "") : i < ws.length := by
  by_cases hi : i < ws.length
  · exact hi
  · exact absurd (wordAt_out (by omega)) h
theorem no_num : numberW ("" : Str) = false := by decide +kernel
theorem no_name : nameW ("" : Str) = false := by decide +kernel
theorem number_lt {ws : List Str} {i : Nat} (h : numberW (wordAt ws i) = true) : i < ws.length := wordAt_lt (number_ne h no_num)
theorem name_lt {ws : List Str} {i : Nat} (h : nameW (wordAt ws i) = true) : i < ws.length := wordAt_lt (name_ne h no_name)
structure SmallW (ws : List Str) : Prop where
  len : ws.length ≤ 10000
  each : ∀ y ∈ ws, y.length ≤ 10000
theorem SmallW.at {ws : List Str} (s : SmallW ws) (i : Nat) : (wordAt ws i).length ≤ 10000 := by
  by_cases hi : i < ws.length
  · rw [wordAt_in hi]
    exact s.each _ (List.getElem_mem hi)
  · rw [wordAt_out (by omega)]
    exact Nat.zero_le _
theorem SmallW.at6 {ws : List Str} (s : SmallW ws) (i : Nat) : (wordAt ws i).length ≤ 1000000 := Nat.le_trans (s.at i) (by decide)
theorem dv_bound {z : Str} (h : numberW z = true) : 0 ≤ dv z ∧ dv z < 10 ^ 10 := by
  obtain ⟨h1, h2, h3⟩ := number_parts h
  refine ⟨Int.natCast_nonneg _, ?_⟩
  have key : ∀ (cs : List Nat) (acc : Nat), (∀ c ∈ cs, c ≤ 57) → cs.foldl (fun acc c => acc * 10 + (c - 48)) acc < (acc + 1) * 10 ^ cs.length := by
    intro cs
    induction cs with
    | nil => intro acc _; simp
    | cons c cs ih =>
      intro acc h
      have h1 := ih (acc * 10 + (c - 48)) (fun d hd => h d (List.mem_cons_of_mem _ hd))
      have h2 := h c List.mem_cons_self
      rw [List.foldl_cons, List.length_cons, Nat.pow_succ']
      refine Nat.lt_of_lt_of_le h1 ?_
      rw [← Nat.mul_assoc]
      exact Nat.mul_le_mul_right _ (by omega)
  have h5 := key (tl z) 0 (fun c hc => (dig_range c (h3 c hc)).2)
  have h6 : (10 : Nat) ^ (tl z).length ≤ 10 ^ 10 := Nat.pow_le_pow_right (by decide) (by rw [← str_len]; exact h2)
  unfold dv NumText.digitsVal
  omega
end W3
namespace W4
open PySem PySem.Spec PyProof.Rows L2 Wy WM W3
theorem tl_app (x y : Str) : tl (x ++ y) = tl x ++ tl y := app_tl x y
theorem ofString_app (a b : String) : Str.ofString (a ++ b) = Str.ofString a ++ Str.ofString b := by
  refine str_ext ?_
  rw [app_tl, Str.ofString_eq_toList, Str.ofString_eq_toList, Str.ofString_eq_toList]
  simp
theorem toStr_neg {i : Int} (h : i < 0) : Str.ofString (toString i) = ("-" : Str) ++ numS (-i).toNat := by
  rw [PyProof.Rows.toString_neg h, ofString_app, toStr_nat (by omega), show 0 - i = -i by omega]
/-- a number's text, of either sign -/
def intS (n : Int) : Str := Str.ofString (toString n)
theorem intS_tl (n : Int) : tl (intS n) = if n < 0 then 45 :: TL.numL (-n).toNat else TL.numL n.toNat := by
  unfold intS
  by_cases h : n < 0
  · rw [if_pos h, toStr_neg h, tl_app, numS_tl]
    rfl
  · rw [if_neg h, toStr_nat (by omega), numS_tl]
theorem intS_len {n : Int} (h : n.natAbs < 10 ^ 10) : (intS n).length ≤ 11 := by
  rw [str_len]
  show (tl (intS n)).length ≤ 11
  rw [intS_tl]
  split
  · rw [List.length_cons]
    have := TL.numL_len (n := (-n).toNat) (k := 10) (by decide) (by omega)
    omega
  · have := TL.numL_len (n := n.toNat) (k := 10) (by decide) (by omega)
    omega
def plusS (p : Int) : Str := if p = 0 then "" else if 0 < p then (" + " : Str) ++ numS p.toNat else (" - " : Str) ++ numS (-p).toNat
def textE : Ex → Str
  | .num n => intS n
  | .var x p => x ++ plusS p
  | .item x i p => x ++ ("[" : Str) ++ textE i ++ ("]" : Str) ++ plusS p
def plusW (p : Int) : List Str := if p = 0 then [] else [if 0 < p then "+" else "-", numS p.natAbs]
def wordsE : Ex → List Str
  | .num n => if n < 0 then ["-", numS (-n).toNat] else [numS n.toNat]
  | .var x p => x :: plusW p
  | .item x i p => [x, ("[" : Str)] ++ wordsE i ++ [("]" : Str)] ++ plusW p
def Plain : Ex → Prop
  | .num n => n.natAbs < 10 ^ 10
  | .var x p => nameW x = true ∧ p.natAbs < 10 ^ 10
  | .item _ _ _ => False
def Good : Ex → Prop
  | .num n => n.natAbs < 10 ^ 10
  | .var x p => nameW x = true ∧ p.natAbs < 10 ^ 10
  | .item x i p => nameW x = true ∧ Plain i ∧ p.natAbs < 10 ^ 10
theorem Plain.good {e : Ex} (h : Plain e) : Good e := by
  cases e with
  | num n => exact h
  | var x p => exact h
  | item x i p => exact h.elim
theorem numS_len10 {n : Nat} (h : n < 10 ^ 10) : (numS n).length ≤ 10 := (numS_len h).2
theorem plusS_len {p : Int} (h : p.natAbs < 10 ^ 10) : (plusS p).length ≤ 13 := by
  unfold plusS
  split
  · exact Nat.zero_le _
  · split
    · rw [app_len]
      have := numS_len10 (n := p.toNat) (by omega)
      show 3 + _ ≤ _
      omega
    · rw [app_len]
      have := numS_len10 (n := (-p).toNat) (by omega)
      show 3 + _ ≤ _
      omega
theorem plain_len {e : Ex} (h : Plain e) : (textE e).length ≤ 30 := by
  cases e with
  | num n =>
    have := intS_len h
    show (intS n).length ≤ 30
    omega
  | var x p =>
    have h1 := (name_parts h.1).2.1
    have h2 := plusS_len h.2
    show (x ++ plusS p).length ≤ 30
    rw [app_len]
    omega
  | item x i p => exact h.elim
theorem good_len {e : Ex} (h : Good e) : (textE e).length ≤ 60 := by
  cases e with
  | num n =>
    have := intS_len h
    show (intS n).length ≤ 60
    omega
  | var x p =>
    have h1 := (name_parts h.1).2.1
    have h2 := plusS_len h.2
    show (x ++ plusS p).length ≤ 60
    rw [app_len]
    omega
  | item x i p =>
    have h1 := (name_parts h.1).2.1
    have h2 := plusS_len h.2.2
    have h3 := plain_len h.2.1
    show (x ++ ("[" : Str) ++ textE i ++ ("]" : Str) ++ plusS p).length ≤ 60
    rw [app_len, app_len, app_len, app_len]
    show _ + 1 + _ + 1 + _ ≤ 60
    omega
/-! ### words with spaces between them -/
def joinsLH (w v : List Nat) : Prop := ∃ a c, w.getLast? = some a ∧ v.head? = some c ∧ joinsC a c
def glue : List (List Nat × Nat) → List Nat
  | [] => []
  | (w, n) :: r => w ++ (List.replicate n 32 ++ glue r)
def GlueOk : List (List Nat × Nat) → Prop
  | [] => True
  | [(w, _)] => IsTok w
  | (w, n) :: (v, m) :: r => IsTok w ∧ (0 < n ∨ ¬ joinsLH w v) ∧ GlueOk ((v, m) :: r)
theorem joins32 {a : Nat} : ¬ joinsC a 32 := by
  rintro (⟨_, h⟩ | ⟨_, h⟩ | ⟨_, h⟩)
  · exact let32 32 h rfl
  · exact (dig32 32 h).1 rfl
  · exact (eqs32 32 h).1 rfl
theorem _root_.WM.IsTok.last {w : List Nat} (h : IsTok w) : ∃ a, w.getLast? = some a := by
  obtain ⟨c, r, e, _⟩ := h.ne
  rw [e, List.getLast?_cons]
  exact ⟨_, rfl⟩
theorem glue_next {w : List Nat} (h : IsTok w) {n : Nat} {rest : List Nat} (k : 0 < n ∨ okNext w rest) : okNext w (List.replicate n 32 ++ rest) := by
  obtain ⟨a, ha⟩ := h.last
  cases n with
  | zero =>
    rcases k with k | k
    · omega
    · exact k
  | succ n =>
    rw [List.replicate_succ]
    exact .inr ⟨a, 32, _, ha, rfl, joins32⟩
theorem lex_glue : ∀ {l : List (List Nat × Nat)}, GlueOk l → lexL (glue l) = some (l.map (·.1))
  | [], _ => rfl
  | [(w, n)], h => by
    have h : IsTok w := h
    show lexL (w ++ (List.replicate n 32 ++ [])) = _
    rw [lexL_tok h, lexL_spaces]
    · rfl
    · refine glue_next h (.inr (.inl rfl))
  | (w, n) :: (v, m) :: r, h => by
    obtain ⟨h1, h2, h3⟩ := h
    show lexL (w ++ (List.replicate n 32 ++ glue ((v, m) :: r))) = _
    rw [lexL_tok h1, lexL_spaces, lex_glue h3]
    · rfl
    · refine glue_next h1 (h2.imp id fun h => ?_)
      have hv : IsTok v := by
        cases r with
        | nil => exact h3
        | cons x r => exact h3.1
      obtain ⟨c, q, e, _⟩ := hv.ne
      obtain ⟨a, ha⟩ := h1.last
      refine .inr ⟨a, c, q ++ (List.replicate m 32 ++ glue r), ha, ?_, fun hj => h ⟨a, c, ha, by rw [e]; rfl, hj⟩⟩
      show v ++ _ = _
      rw [e]
      rfl
/-- a word of a row -/
def Tok (w : Str) : Prop := IsTok (tl w)
theorem words_glue {z : Str} {k : Nat} {l : List (List Nat × Nat)} (h : GlueOk l) (e : tl z = List.replicate k 32 ++ glue l) : wordsW z = some (l.map fun p => mkS p.1) := by
  rw [words_lex, e, lexL_spaces, lex_glue h]
  show some ((l.map (·.1)).map mkS) = _
  rw [List.map_map]
  rfl
theorem tok_name {x : Str} (h : nameW x = true) : Tok x := tok_let (ne_of_len (name_parts h).1) (name_parts h).2.2.2
theorem tok_num (n : Nat) : Tok (numS n) := by
  unfold Tok
  rw [numS_tl]
  exact tok_dig (TL.numL_ne n) fun c hc => dig_mem (TL.numL_digits n c hc)
theorem tok_sho {z : Str} {c : Nat} (e : tl z = [c]) (h : c ∈ tl SHO) : Tok z := by
  unfold Tok
  rw [e]
  exact tok_one h
theorem no_join_sho {w v : List Nat} {c : Nat} (hc : c ∉ tl LET ∧ c ∉ tl DIG ∧ c ∉ EQS) (h : w.getLast? = some c ∨ v.head? = some c) : ¬ joinsLH w v := by
  rintro ⟨a, b, h1, h2, hj⟩
  rcases h with h | h
  · rw [h] at h1
    have h1 := Option.some.inj h1
    subst h1
    rcases hj with ⟨h, _⟩ | ⟨h, _⟩ | ⟨h, _⟩
    · exact hc.1 h
    · exact hc.2.1 h
    · exact hc.2.2 h
  · rw [h] at h2
    have h2 := Option.some.inj h2
    subst h2
    rcases hj with ⟨_, h⟩ | ⟨_, h⟩ | ⟨_, h⟩
    · exact hc.1 h
    · exact hc.2.1 h
    · exact hc.2.2 h
/-! the written form's words -/
def plusG (p : Int) : List (List Nat × Nat) := if p = 0 then [] else [([if 0 < p then 43 else 45], 1), (TL.numL p.natAbs, 0)]
/-- how many spaces stand behind what is ahead of a plus -/
def gapP (p : Int) : Nat := if p = 0 then 0 else 1
def plainG : Ex → List (List Nat × Nat)
  | .num n => if n < 0 then [([45], 0), (TL.numL (-n).toNat, 0)] else [(TL.numL n.toNat, 0)]
  | .var x p => (tl x, gapP p) :: plusG p
  | .item _ _ _ => []
def goodG : Ex → List (List Nat × Nat)
  | .num n => plainG (.num n)
  | .var x p => plainG (.var x p)
  | .item x i p => (tl x, 0) :: ([91], 0) :: (plainG i ++ ([93], gapP p) :: plusG p)
theorem plus_tl (p : Int) : tl (plusS p) = List.replicate (gapP p) 32 ++ glue (plusG p) := by
  unfold plusS gapP plusG
  by_cases h : p = 0
  · rw [if_pos h, if_pos h, if_pos h]
    rfl
  · rw [if_neg h, if_neg h, if_neg h]
    by_cases h2 : 0 < p
    · rw [if_pos h2, if_pos h2, tl_app, numS_tl, show p.toNat = p.natAbs by omega]
      show [32, 43, 32] ++ _ = [32] ++ ([43] ++ ([32] ++ (TL.numL p.natAbs ++ ([] ++ []))))
      simp
    · rw [if_neg h2, if_neg h2, tl_app, numS_tl, show (-p).toNat = p.natAbs by omega]
      show [32, 45, 32] ++ _ = [32] ++ ([45] ++ ([32] ++ (TL.numL p.natAbs ++ ([] ++ []))))
      simp
theorem glue_app : ∀ a b : List (List Nat × Nat), glue (a ++ b) = glue a ++ glue b
  | [], b => rfl
  | (w, n) :: r, b => by
    show w ++ (List.replicate n 32 ++ glue (r ++ b)) = w ++ (List.replicate n 32 ++ glue r) ++ glue b
    rw [glue_app r b]
    simp
theorem plain_tl {e : Ex} (h : Plain e) : tl (textE e) = glue (plainG e) := by
  cases e with
  | num n =>
    show tl (intS n) = glue (if n < 0 then _ else _)
    rw [intS_tl]
    split
    · show _ = [45] ++ ([] ++ (TL.numL (-n).toNat ++ ([] ++ [])))
      simp
    · show _ = TL.numL n.toNat ++ ([] ++ [])
      simp
  | var x p =>
    show tl (x ++ plusS p) = tl x ++ (List.replicate (gapP p) 32 ++ glue (plusG p))
    rw [tl_app]
    show tl x ++ tl (plusS p) = _
    rw [plus_tl]
  | item x i p => exact h.elim
theorem good_tl {e : Ex} (h : Good e) : tl (textE e) = glue (goodG e) := by
  cases e with
  | num n => exact plain_tl (e := .num n) h
  | var x p => exact plain_tl (e := .var x p) h
  | item x i p =>
    show tl (x ++ ("[" : Str) ++ textE i ++ ("]" : Str) ++ plusS p) = tl x ++ ([] ++ ([91] ++ ([] ++ glue (plainG i ++ ([93], gapP p) :: plusG p))))
    rw [tl_app, tl_app, tl_app, tl_app, glue_app]
    show tl x ++ [91] ++ tl (textE i) ++ [93] ++ tl (plusS p) = tl x ++ ([] ++ ([91] ++ ([] ++ (glue (plainG i) ++ ([93] ++ (List.replicate (gapP p) 32 ++ glue (plusG p)))))))
    rw [plain_tl h.2.1, plus_tl]
    simp
theorem tokL (n : Nat) : IsTok (TL.numL n) := by
  have := tok_num n
  unfold Tok at this
  rwa [numS_tl] at this
theorem plusG_ok (p : Int) : GlueOk (plusG p) := by
  unfold plusG
  split
  · trivial
  · refine ⟨?_, .inl (by decide), tokL _⟩
    split
    · exact tok_one (by decide +kernel)
    · exact tok_one (by decide +kernel)
theorem glue_cons {w : List Nat} {n : Nat} {l : List (List Nat × Nat)} (h : IsTok w) (k : ∀ v m r, l = (v, m) :: r → 0 < n ∨ ¬ joinsLH w v) (hl : GlueOk l) : GlueOk ((w, n) :: l) := by
  cases l with
  | nil => exact h
  | cons x r =>
    obtain ⟨v, m⟩ := x
    exact ⟨h, k v m r rfl, hl⟩
theorem plus_behind {w : List Nat} {p : Int} (h : IsTok w) : GlueOk ((w, gapP p) :: plusG p) := by
  refine glue_cons h (fun v m r e => .inl ?_) (plusG_ok p)
  unfold plusG at e
  unfold gapP
  split at e
  · cases e
  · rename_i hp
    rw [if_neg hp]
    decide
theorem plain_glue {e : Ex} (h : Plain e) : GlueOk (plainG e) := by
  cases e with
  | num n =>
    show GlueOk (if n < 0 then _ else _)
    split
    · exact ⟨tok_one (by decide +kernel), .inr (no_join_sho (c := 45) (by decide +kernel) (.inl rfl)), tokL _⟩
    · exact tokL _
  | var x p => exact plus_behind (tok_name h.1)
  | item x i p => exact h.elim
theorem glue_join : ∀ {a : List (List Nat × Nat)} {w : List Nat} {n : Nat} {b : List (List Nat × Nat)}, GlueOk a → (∀ v, ¬ joinsLH v w) → GlueOk ((w, n) :: b) → GlueOk (a ++ (w, n) :: b)
  | [], _, _, _, _, _, h => h
  | [(v, m)], w, n, b, h1, h2, h3 => ⟨h1, .inr (h2 v), h3⟩
  | (v, m) :: (u, k) :: r, w, n, b, h1, h2, h3 => ⟨h1.1, h1.2.1, glue_join (a := (u, k) :: r) h1.2.2 h2 h3⟩
theorem good_glue {e : Ex} (h : Good e) : GlueOk (goodG e) := by
  cases e with
  | num n => exact plain_glue (e := .num n) h
  | var x p => exact plain_glue (e := .var x p) h
  | item x i p =>
    have h91 : ∀ v : List Nat, ¬ joinsLH [91] v := fun v => no_join_sho (c := 91) (by decide +kernel) (.inl rfl)
    refine ⟨tok_name h.1, .inr (no_join_sho (c := 91) (by decide +kernel) (.inr rfl)), ?_⟩
    refine glue_cons (tok_one (by decide +kernel)) (fun v m r _ => .inr (h91 v)) ?_
    exact glue_join (plain_glue h.2.1) (fun v => no_join_sho (c := 93) (by decide +kernel) (.inr rfl)) (plus_behind (tok_one (by decide +kernel)))
theorem mkS_num (n : Nat) : mkS (TL.numL n) = numS n := by rw [← numS_tl, tl_mkS]
theorem plus_words (p : Int) : (plusG p).map (fun q => mkS q.1) = plusW p := by
  unfold plusG plusW
  split
  · rfl
  · split
    · show [mkS [43], mkS (TL.numL _)] = _
      rw [mkS_num]
      rfl
    · show [mkS [45], mkS (TL.numL _)] = _
      rw [mkS_num]
      rfl
theorem plain_words {e : Ex} (h : Plain e) : (plainG e).map (fun q => mkS q.1) = wordsE e := by
  cases e with
  | num n =>
    show (if n < 0 then _ else _ : List (List Nat × Nat)).map _ = if n < 0 then _ else _
    split
    · show [mkS [45], mkS (TL.numL _)] = _
      rw [mkS_num]
      rfl
    · show [mkS (TL.numL _)] = _
      rw [mkS_num]
  | var x p =>
    show mkS (tl x) :: (plusG p).map _ = _
    rw [tl_mkS, plus_words]
    rfl
  | item x i p => exact h.elim
theorem good_words {e : Ex} (h : Good e) : wordsW (textE e) = some (wordsE e) := by
  rw [words_glue (k := 0) (good_glue h) (by rw [good_tl h]; rfl)]
  congr 1
  cases e with
  | num n => exact plain_words (e := .num n) h
  | var x p => exact plain_words (e := .var x p) h
  | item x i p =>
    show mkS (tl x) :: mkS [91] :: (plainG i ++ ([93], gapP p) :: plusG p).map _ = _
    rw [tl_mkS, List.map_append, plain_words h.2.1, List.map_cons, plus_words]
    show _ = [x, ("[" : Str)] ++ wordsE i ++ [("]" : Str)] ++ plusW p
    simp
    exact ⟨rfl, rfl⟩
end W4
namespace W5
open PySem PySem.Spec PyProof.Rows L2 Wy WM W3 W4
/-! ### read back -/
theorem wordAt_pre (pre l : List Str) (k : Nat) : wordAt (pre ++ l) (pre.length + k) = wordAt l k := by
  unfold wordAt
  rw [List.getD_eq_getElem?_getD, List.getD_eq_getElem?_getD, List.getElem?_append_right (by omega), Nat.add_sub_cancel_left]
def NoSign (suf : List Str) : Prop := wordAt suf 0 ≠ "+" ∧ wordAt suf 0 ≠ "-"
theorem natAbs_lt {p : Int} (h : p.natAbs < 10 ^ 10) : numberW (numS p.natAbs) = true := numS_number h
theorem plus_read {pre suf : List Str} {p : Int} (h : p.natAbs < 10 ^ 10) (hs : NoSign suf) : takePlus (pre ++ (plusW p ++ suf)) pre.length = some (p, pre.length + (plusW p).length) := by
  have h0 := wordAt_pre pre (plusW p ++ suf) 0
  have h1 := wordAt_pre pre (plusW p ++ suf) 1
  rw [Nat.add_zero] at h0
  unfold takePlus
  rw [h0, h1]
  unfold plusW
  by_cases hp : p = 0
  · rw [if_pos hp, List.nil_append, if_neg (fun h => h.elim hs.1 hs.2), hp]
    rfl
  · rw [if_neg hp]
    have e1 : wordAt ([if 0 < p then ("+" : Str) else "-", numS p.natAbs] ++ suf) 0 = if 0 < p then ("+" : Str) else "-" := rfl
    have e2 : wordAt ([if 0 < p then ("+" : Str) else "-", numS p.natAbs] ++ suf) 1 = numS p.natAbs := rfl
    rw [e1, e2, natAbs_lt h, numS_dv]
    by_cases h2 : 0 < p
    · rw [if_pos h2, if_pos (.inl rfl), if_pos rfl, if_pos rfl, show ((p.natAbs : Nat) : Int) = p by omega]
      rfl
    · rw [if_neg h2, if_pos (.inr rfl), if_pos rfl, if_neg (by decide +kernel), show -((p.natAbs : Nat) : Int) = p by omega]
      rfl
theorem num_not_name (n : Nat) (h : n < 10 ^ 10) : nameW (numS n) = false := by
  cases e : nameW (numS n) with
  | false => rfl
  | true =>
    have := name_not_number e
    rw [numS_number h] at this
    cases this
theorem plain_read {pre suf : List Str} {e : Ex} (h : Plain e) (hs : NoSign suf) : takePlain (pre ++ (wordsE e ++ suf)) pre.length = some (e, pre.length + (wordsE e).length) := by
  have h0 := wordAt_pre pre (wordsE e ++ suf) 0
  have h1 := wordAt_pre pre (wordsE e ++ suf) 1
  rw [Nat.add_zero] at h0
  unfold takePlain
  cases e with
  | num n =>
    have hn : n.natAbs < 10 ^ 10 := h
    unfold takeSigned
    rw [h0, h1]
    by_cases hneg : n < 0
    · have e0 : wordsE (.num n) = [("-" : Str), numS (-n).toNat] := if_pos hneg
      rw [e0]
      have e1 : wordAt ([("-" : Str), numS (-n).toNat] ++ suf) 0 = "-" := rfl
      have e2 : wordAt ([("-" : Str), numS (-n).toNat] ++ suf) 1 = numS (-n).toNat := rfl
      rw [e1, e2, if_neg (by decide +kernel), if_neg (by decide +kernel), numS_number (n := (-n).toNat) (by omega), if_pos ⟨rfl, rfl⟩, numS_dv, show -(((-n).toNat : Nat) : Int) = n by omega]
      rfl
    · have e0 : wordsE (.num n) = [numS n.toNat] := if_neg hneg
      rw [e0]
      have e1 : wordAt ([numS n.toNat] ++ suf) 0 = numS n.toNat := rfl
      rw [e1, num_not_name n.toNat (by omega), if_neg Bool.false_ne_true, numS_number (n := n.toNat) (by omega), if_pos rfl, numS_dv, show ((n.toNat : Nat) : Int) = n by omega]
      rfl
  | var x p =>
    have e1 : wordAt (wordsE (.var x p) ++ suf) 0 = x := rfl
    have e2 := plus_read (pre := pre ++ [x]) h.2 hs
    have e3 : pre ++ (wordsE (.var x p) ++ suf) = pre ++ [x] ++ (plusW p ++ suf) := by
      show pre ++ (x :: plusW p ++ suf) = _
      simp
    rw [h0, e1, h.1, if_pos rfl, e3, show pre.length + 1 = (pre ++ [x]).length by simp, e2]
    show some (Ex.var x p, (pre ++ [x]).length + (plusW p).length) = some (Ex.var x p, pre.length + (x :: plusW p).length)
    rw [List.length_append, List.length_cons, List.length_cons, List.length_nil]
    congr 2
    omega
  | item x i p => exact h.elim
theorem noSign_nil : NoSign [] := by
  constructor <;> decide +kernel
theorem read_good {e : Ex} (h : Good e) : readW (wordsE e) = some e := by
  have pl : ∀ e : Ex, Plain e → (¬ (nameW (wordAt (wordsE e) 0) = true ∧ wordAt (wordsE e) 1 = "[")) → readW (wordsE e) = some e := fun e h hn => by
    have h1 := plain_read (pre := []) h noSign_nil
    rw [List.nil_append, List.append_nil, List.length_nil, Nat.zero_add] at h1
    unfold readW takeExpr
    rw [if_neg hn, h1]
    exact if_pos rfl
  cases e with
  | num n =>
    refine pl _ h fun hh => ?_
    have hn : n.natAbs < 10 ^ 10 := h
    by_cases hneg : n < 0
    · have e0 : wordsE (.num n) = [("-" : Str), numS (-n).toNat] := if_pos hneg
      rw [e0] at hh
      have : nameW ("-" : Str) = true := hh.1
      revert this
      decide +kernel
    · have e0 : wordsE (.num n) = [numS n.toNat] := if_neg hneg
      rw [e0] at hh
      have : nameW (numS n.toNat) = true := hh.1
      rw [num_not_name n.toNat (by omega)] at this
      cases this
  | var x p =>
    refine pl _ h fun hh => ?_
    have hb : wordAt (x :: plusW p) 1 = "[" := hh.2
    unfold plusW at hb
    split at hb
    · revert hb
      show wordAt [x] 1 = _ → _
      rw [show wordAt [x] 1 = "" from rfl]
      decide +kernel
    · have hb : (if 0 < p then ("+" : Str) else "-") = "[" := hb
      split at hb
      · revert hb
        decide +kernel
      · revert hb
        decide +kernel
  | item x i p =>
    have e0 : wordsE (.item x i p) = [x, ("[" : Str)] ++ (wordsE i ++ (("]" : Str) :: plusW p)) := by
      show [x, ("[" : Str)] ++ wordsE i ++ [("]" : Str)] ++ plusW p = _
      simp
    have h1 := plain_read (pre := [x, ("[" : Str)]) (suf := ("]" : Str) :: plusW p) h.2.1 (by constructor <;> (show ("]" : Str) ≠ _; decide +kernel))
    have h2 := plus_read (pre := [x, ("[" : Str)] ++ wordsE i ++ [("]" : Str)]) (suf := []) h.2.2 noSign_nil
    have h3 := wordAt_pre ([x, ("[" : Str)] ++ wordsE i) (("]" : Str) :: plusW p) 0
    have e3 : [x, ("[" : Str)] ++ wordsE i ++ [("]" : Str)] ++ (plusW p ++ []) = [x, ("[" : Str)] ++ (wordsE i ++ (("]" : Str) :: plusW p)) := by simp
    have e4 : [x, ("[" : Str)] ++ wordsE i ++ (("]" : Str) :: plusW p) = [x, ("[" : Str)] ++ (wordsE i ++ (("]" : Str) :: plusW p)) := by simp
    rw [e3] at h2
    rw [e4, Nat.add_zero] at h3
    have l1 : ([x, ("[" : Str)] ++ wordsE i).length = 2 + (wordsE i).length := by
      rw [List.length_append]
      rfl
    have l2 : ([x, ("[" : Str)] ++ wordsE i ++ [("]" : Str)]).length = 2 + (wordsE i).length + 1 := by
      rw [List.length_append, l1]
      rfl
    rw [l2] at h2
    rw [l1] at h3
    unfold readW takeExpr
    rw [e0]
    rw [if_pos (show nameW (wordAt ([x, ("[" : Str)] ++ (wordsE i ++ (("]" : Str) :: plusW p))) 0) = true ∧ wordAt ([x, ("[" : Str)] ++ (wordsE i ++ (("]" : Str) :: plusW p))) (0 + 1) = "[" from ⟨h.1, rfl⟩)]
    rw [show takePlain ([x, ("[" : Str)] ++ (wordsE i ++ (("]" : Str) :: plusW p))) (0 + 2) = some (i, 2 + (wordsE i).length) from h1]
    show wholeE (if wordAt _ (2 + (wordsE i).length) = "]" then _ else none) _ = _
    rw [h3, if_pos (show wordAt (("]" : Str) :: plusW p) 0 = "]" from rfl), h2]
    show (if _ = _ then some (Ex.item (wordAt ([x, ("[" : Str)] ++ _) 0) i p) else none) = _
    rw [if_pos (by simp only [List.length_append, List.length_cons, List.length_nil]; omega)]
    rfl
/-! ### a sign that belongs to no word -/
def OKC (c : Nat) : Prop := c ∈ tl LET ∨ c ∈ tl DIG ∨ c ∈ tl SHO ∨ c = 32
theorem tw_mem {p : Nat → Bool} : ∀ {l : List Nat} {d : Nat}, d ∈ l.takeWhile p → p d = true
  | [], _, h => by cases h
  | c :: r, d, h => by
    rw [List.takeWhile_cons] at h
    split at h
    · rename_i h1
      rcases List.mem_cons.mp h with e | h
      · rw [e]
        exact h1
      · exact tw_mem h
    · cases h
theorem lex_bad : ∀ {k : Nat} {l : List Nat}, l.length ≤ k → 61 ∉ l → (∃ c ∈ l, ¬ OKC c) → lexL l = none
  | 0, l, h, _, ⟨c, hc, _⟩ => by
    have e : l = [] := List.length_eq_zero_iff.mp (by omega)
    rw [e] at hc
    cases hc
  | k + 1, [], _, _, ⟨c, hc, _⟩ => by cases hc
  | k + 1, c :: r, h, h61, ⟨b, hb, nb⟩ => by
    rw [List.length_cons] at h
    by_cases hs : c = 32
    · rw [hs, lexL_space]
      refine lex_bad (k := k) (by omega) (fun z => h61 (List.mem_cons_of_mem _ z)) ?_
      rcases List.mem_cons.mp hb with e | hb
      · exact absurd (.inr (.inr (.inr (e.trans hs)))) nb
      · exact ⟨b, hb, nb⟩
    · rw [lexL_word hs]
      split
      · rfl
      · rename_i hw
        have hok : ∀ d ∈ (c :: r).take (wordLen (c :: r)), OKC d := by
          have tw : ∀ (p : List Nat) (n : Nat), n = 1 + (r.takeWhile fun d => decide (d ∈ p)).length → c ∈ p → ∀ d ∈ (c :: r).take n, d ∈ p := fun p n hn hc d hd => by
            rw [hn, Nat.add_comm, List.take_succ_cons] at hd
            rcases List.mem_cons.mp hd with e | hd
            · rw [e]
              exact hc
            · have e : r.take (r.takeWhile fun d => decide (d ∈ p)).length = r.takeWhile fun d => decide (d ∈ p) := by
                have := List.takeWhile_prefix (fun d => decide (d ∈ p)) (l := r)
                exact (List.prefix_iff_eq_take.mp this).symm
              rw [e] at hd
              simpa using tw_mem hd
          rw [wordLen_cons]
          intro d hd
          split at hd
          · rename_i h1
            exact .inl (tw _ _ rfl h1 d hd)
          · split at hd
            · rename_i h1
              exact .inr (.inl (tw _ _ rfl h1 d hd))
            · split at hd
              · rename_i h1
                exact absurd (List.mem_cons_of_mem _ (List.mem_of_head? h1.1)) h61
              · split at hd
                · rename_i h1
                  have e : d = c := by simpa using hd
                  exact .inr (.inr (.inl (e ▸ h1)))
                · cases hd
        have hd : ((c :: r).drop (wordLen (c :: r))).length ≤ k := by
          rw [List.length_drop, List.length_cons]
          omega
        rw [lex_bad hd (fun z => h61 (List.mem_of_mem_drop z)) ?_]
        · rfl
        · rw [← List.take_append_drop (wordLen (c :: r)) (c :: r)] at hb
          rcases List.mem_append.mp hb with hb | hb
          · exact absurd (hok b hb) nb
          · exact ⟨b, hb, nb⟩
theorem words_bad {z : Str} (h : 61 ∉ tl z) (b : ∃ c ∈ tl z, ¬ OKC c) : wordsW z = none := by
  rw [words_lex, lex_bad (Nat.le_refl _) h b]
  rfl
end W5
namespace W7
open PySem PySem.Spec PyProof.Rows L2 Wy WM W3 W4 W5
/-! ### an expression among other words -/
theorem wordAt_app0 {a : Str} {l : List Str} : wordAt (a :: l) 0 = a := rfl
theorem expr_read {pre suf : List Str} {e : Ex} (h : Good e) (hs : NoSign suf) (hb : wordAt suf 0 ≠ "[") : takeExpr (pre ++ (wordsE e ++ suf)) pre.length = some (e, pre.length + (wordsE e).length) := by
  have h0 := wordAt_pre pre (wordsE e ++ suf) 0
  have h1 := wordAt_pre pre (wordsE e ++ suf) 1
  rw [Nat.add_zero] at h0
  cases e with
  | num n =>
    have hp : Plain (.num n) := h
    unfold takeExpr
    rw [if_neg, plain_read hp hs]
    rintro ⟨hn, _⟩
    rw [h0] at hn
    have hn' : n.natAbs < 10 ^ 10 := h
    by_cases hneg : n < 0
    · have e0 : wordsE (.num n) = [("-" : Str), numS (-n).toNat] := if_pos hneg
      rw [e0] at hn
      have : nameW ("-" : Str) = true := hn
      revert this
      decide +kernel
    · have e0 : wordsE (.num n) = [numS n.toNat] := if_neg hneg
      rw [e0] at hn
      have : nameW (numS n.toNat) = true := hn
      rw [num_not_name n.toNat (by omega)] at this
      cases this
  | var x p =>
    have hp : Plain (.var x p) := h
    unfold takeExpr
    rw [if_neg, plain_read hp hs]
    rintro ⟨_, hk⟩
    rw [h1] at hk
    have hk : wordAt (plusW p ++ suf) 0 = "[" := hk
    unfold plusW at hk
    split at hk
    · exact hb hk
    · have hk : (if 0 < p then ("+" : Str) else "-") = "[" := hk
      split at hk
      · revert hk
        decide +kernel
      · revert hk
        decide +kernel
  | item x i p =>
    have e0 : wordsE (.item x i p) ++ suf = x :: ("[" : Str) :: (wordsE i ++ (("]" : Str) :: (plusW p ++ suf))) := by
      show [x, ("[" : Str)] ++ wordsE i ++ [("]" : Str)] ++ plusW p ++ suf = _
      simp
    have l0 : (wordsE (.item x i p)).length = 3 + (wordsE i).length + (plusW p).length := by
      show ([x, ("[" : Str)] ++ wordsE i ++ [("]" : Str)] ++ plusW p).length = _
      simp only [List.length_append, List.length_cons, List.length_nil]
      omega
    rw [e0] at h0 h1 ⊢
    have q1 := plain_read (pre := pre ++ [x, ("[" : Str)]) (suf := ("]" : Str) :: (plusW p ++ suf)) h.2.1 (by constructor <;> (show ("]" : Str) ≠ _; decide +kernel))
    have q2 := plus_read (pre := pre ++ [x, ("[" : Str)] ++ wordsE i ++ [("]" : Str)]) (suf := suf) h.2.2 hs
    have q3 := wordAt_pre (pre ++ [x, ("[" : Str)] ++ wordsE i) (("]" : Str) :: (plusW p ++ suf)) 0
    have r1 : pre ++ [x, ("[" : Str)] ++ (wordsE i ++ (("]" : Str) :: (plusW p ++ suf))) = pre ++ x :: ("[" : Str) :: (wordsE i ++ (("]" : Str) :: (plusW p ++ suf))) := by simp
    have r2 : pre ++ [x, ("[" : Str)] ++ wordsE i ++ [("]" : Str)] ++ (plusW p ++ suf) = pre ++ x :: ("[" : Str) :: (wordsE i ++ (("]" : Str) :: (plusW p ++ suf))) := by simp
    have r3 : pre ++ [x, ("[" : Str)] ++ wordsE i ++ (("]" : Str) :: (plusW p ++ suf)) = pre ++ x :: ("[" : Str) :: (wordsE i ++ (("]" : Str) :: (plusW p ++ suf))) := by simp
    have l1 : (pre ++ [x, ("[" : Str)]).length = pre.length + 2 := by simp
    have l2 : (pre ++ [x, ("[" : Str)] ++ wordsE i).length = pre.length + 2 + (wordsE i).length := by simp only [List.length_append, List.length_cons, List.length_nil]
    have l3 : (pre ++ [x, ("[" : Str)] ++ wordsE i ++ [("]" : Str)]).length = pre.length + 2 + (wordsE i).length + 1 := by simp only [List.length_append, List.length_cons, List.length_nil]
    rw [r1, l1] at q1
    rw [r2, l3] at q2
    rw [r3, l2, Nat.add_zero] at q3
    unfold takeExpr
    rw [h0, h1, if_pos ⟨h.1, rfl⟩, q1]
    show (if wordAt _ (pre.length + 2 + (wordsE i).length) = "]" then _ else none) = _
    rw [q3, if_pos (show wordAt (("]" : Str) :: (plusW p ++ suf)) 0 = "]" from rfl), q2]
    show some (Ex.item _ i p, _) = _
    rw [l0]
    congr 2
    omega
/-! ### conditions -/
abbrev SIG : List Str := ["<", "<=", ">", ">=", "==", "!="]
inductive Cd where
  | cmp (s : Str) (l r : Ex)
  | no (c : Cd)
  | jn (o : Bool) (cs : List Cd)
abbrev jw (o : Bool) : Str := if o then "or" else "and"
mutual
def Cd.d : Cd → PyData
  | .cmp s l r => .tuple [.str "cmp", .str s, l.d, r.d]
  | .no c => .tuple [.str "not", c.d]
  | .jn o cs => .tuple [.str (jw o), .tuple (Cd.ds cs)]
def Cd.ds : List Cd → List PyData
  | [] => []
  | c :: cs => c.d :: Cd.ds cs
end
/-! ### reading them, word by word -/
def takeCmp (ws : List Str) (i : Nat) : Option (Cd × Nat) := match takeExpr ws i with
  | none => none
  | some (l, j) => if wordAt ws j ∈ SIG then (match takeExpr ws (j + 1) with | none => none | some (r, k) => some (.cmp (wordAt ws j) l r, k)) else none
def loopJ (ws : List Str) (take : Nat → Option (Cd × Nat)) (word : Str) : Nat → Nat → Option (List Cd × Nat)
  | 0, _ => none
  | f + 1, i => match take i with
    | none => none
    | some (c, j) => if wordAt ws j = word then (match loopJ ws take word f (j + 1) with | none => none | some (cs, k) => some (c :: cs, k)) else some ([c], j)
def joinOf (o : Bool) : List Cd → Cd
  | [c] => c
  | cs => .jn o cs
def takeJ (ws : List Str) (take : Nat → Option (Cd × Nat)) (o : Bool) (i : Nat) : Option (Cd × Nat) := (loopJ ws take (jw o) (ws.length + 1) i).map fun p => (joinOf o p.1, p.2)
/-- an operand, with so many to be opened yet -/
def opnd (ws : List Str) : Nat → Nat → Option (Cd × Nat)
  | 0, i => if wordAt ws i = "not" ∨ wordAt ws i = "(" then none else takeCmp ws i
  | n + 1, i => if wordAt ws i = "not" then (opnd ws n (i + 1)).map fun p => (.no p.1, p.2)
    else if wordAt ws i = "(" then (match takeJ ws (takeJ ws (opnd ws n) false) true (i + 1) with | none => none | some (c, j) => if wordAt ws j = ")" then some (c, j + 1) else none)
    else takeCmp ws i
def takeAnd (ws : List Str) (n i : Nat) : Option (Cd × Nat) := takeJ ws (opnd ws n) false i
def takeOr (ws : List Str) (n i : Nat) : Option (Cd × Nat) := takeJ ws (takeAnd ws n) true i
def wholeC (t : Option (Cd × Nat)) (n : Nat) : Option Cd := match t with
  | none => none
  | some (c, j) => if j = n then some c else none
def readC (ws : List Str) : Option Cd := wholeC (takeOr ws 8 0) ws.length
/-! ### conditions dressed with pairs -/
def okIn : Bool → Cd → Prop
  | false, .jn _ _ => False
  | true, .jn true _ => False
  | _, _ => True
def seps (o : Bool) : List (List Str) → List Str
  | [] => []
  | [w] => w
  | w :: v :: r => w ++ (jw o :: seps o (v :: r))
mutual
inductive Dr : Cd → Nat → List Str → Nat → Prop
  | par {c : Cd} {p : Nat} {w : List Str} {d : Nat} : Dr c p w d → Dr c (p + 1) (("(" : Str) :: (w ++ [(")" : Str)])) (d + 1)
  | cmp {s : Str} {l r : Ex} : s ∈ SIG → Good l → Good r → Dr (.cmp s l r) 0 (wordsE l ++ (s :: wordsE r)) 0
  | no {c : Cd} {q : Nat} {w : List Str} {d : Nat} : Dr c q w d → (1 ≤ q ∨ okIn false c) → Dr (.no c) 0 (("not" : Str) :: w) (d + 1)
  | jn {o : Bool} {cs : List Cd} {ws : List (List Str)} {d : Nat} : 2 ≤ cs.length → DrAll o cs ws d → Dr (.jn o cs) 0 (seps o ws) d
inductive DrAll : Bool → List Cd → List (List Str) → Nat → Prop
  | nil {o : Bool} : DrAll o [] [] 0
  | cons {o : Bool} {c : Cd} {cs : List Cd} {q : Nat} {w : List Str} {ws : List (List Str)} {d e : Nat} : Dr c q w d → (1 ≤ q ∨ okIn o c) → DrAll o cs ws e → DrAll o (c :: cs) (w :: ws) (max d e)
end
def Sf (suf : List Str) : Prop := NoSign suf ∧ wordAt suf 0 ≠ "["
theorem sf_sig {s : Str} (h : s ∈ SIG) (l : List Str) : Sf (s :: l) := by
  have : ∀ s ∈ SIG, s ≠ "+" ∧ s ≠ "-" ∧ s ≠ "[" := by decide +kernel
  exact ⟨⟨(this s h).1, (this s h).2.1⟩, (this s h).2.2⟩
theorem sf_jw (o : Bool) (l : List Str) : Sf (jw o :: l) := by
  have : ∀ o : Bool, jw o ≠ "+" ∧ jw o ≠ "-" ∧ jw o ≠ "[" := by decide +kernel
  exact ⟨⟨(this o).1, (this o).2.1⟩, (this o).2.2⟩
theorem sf_par (l : List Str) : Sf ((")" : Str) :: l) := by
  have : (")" : Str) ≠ "+" ∧ (")" : Str) ≠ "-" ∧ (")" : Str) ≠ "[" := by decide +kernel
  exact ⟨⟨this.1, this.2.1⟩, this.2.2⟩
theorem first_word {e : Ex} (h : Good e) (l : List Str) : wordAt (wordsE e ++ l) 0 ≠ "not" ∧ wordAt (wordsE e ++ l) 0 ≠ "(" := by
  have nm : ∀ x : Str, nameW x = true → x ≠ "not" ∧ x ≠ "(" := fun x hx => by
    have h1 : nameW ("not" : Str) = false := by decide +kernel
    have h2 : nameW ("(" : Str) = false := by decide +kernel
    exact ⟨fun z => (by rw [z, h1] at hx; cases hx), fun z => (by rw [z, h2] at hx; cases hx)⟩
  have nu : ∀ x : Str, numberW x = true → x ≠ "not" ∧ x ≠ "(" := fun x hx => by
    have h1 : numberW ("not" : Str) = false := by decide +kernel
    have h2 : numberW ("(" : Str) = false := by decide +kernel
    exact ⟨fun z => (by rw [z, h1] at hx; cases hx), fun z => (by rw [z, h2] at hx; cases hx)⟩
  cases e with
  | num n =>
    have hn : n.natAbs < 10 ^ 10 := h
    by_cases hneg : n < 0
    · have e0 : wordsE (.num n) = [("-" : Str), numS (-n).toNat] := if_pos hneg
      rw [e0]
      show ("-" : Str) ≠ "not" ∧ ("-" : Str) ≠ "("
      decide +kernel
    · have e0 : wordsE (.num n) = [numS n.toNat] := if_neg hneg
      rw [e0]
      exact nu _ (numS_number (by omega))
  | var x p => exact nm x h.1
  | item x i p => exact nm x h.1
theorem cmp_read {pre suf : List Str} {s : Str} {l r : Ex} (hs : s ∈ SIG) (gl : Good l) (gr : Good r) (hf : Sf suf) :
    takeCmp (pre ++ ((wordsE l ++ (s :: wordsE r)) ++ suf)) pre.length = some (.cmp s l r, pre.length + (wordsE l ++ (s :: wordsE r)).length) := by
  have q1 := expr_read (pre := pre) (suf := s :: (wordsE r ++ suf)) gl (sf_sig hs _).1 (sf_sig hs _).2
  have q2 := expr_read (pre := pre ++ wordsE l ++ [s]) (suf := suf) gr hf.1 hf.2
  have q3 := wordAt_pre (pre ++ wordsE l) (s :: (wordsE r ++ suf)) 0
  have r1 : pre ++ ((wordsE l ++ (s :: wordsE r)) ++ suf) = pre ++ (wordsE l ++ (s :: (wordsE r ++ suf))) := by simp
  have r2 : pre ++ wordsE l ++ [s] ++ (wordsE r ++ suf) = pre ++ (wordsE l ++ (s :: (wordsE r ++ suf))) := by simp
  have r3 : pre ++ wordsE l ++ (s :: (wordsE r ++ suf)) = pre ++ (wordsE l ++ (s :: (wordsE r ++ suf))) := by simp
  have l2 : (pre ++ wordsE l ++ [s]).length = pre.length + (wordsE l).length + 1 := by simp only [List.length_append, List.length_cons, List.length_nil]
  have l3 : (pre ++ wordsE l).length = pre.length + (wordsE l).length := List.length_append ..
  rw [r2, l2] at q2
  rw [r3, l3, Nat.add_zero] at q3
  rw [r1]
  unfold takeCmp
  rw [q1]
  show (if wordAt _ (pre.length + (wordsE l).length) ∈ SIG then _ else none) = _
  rw [q3, show wordAt (s :: (wordsE r ++ suf)) 0 = s from rfl, if_pos hs, q2]
  show some (Cd.cmp s l r, _) = _
  rw [List.length_append, List.length_cons]
  congr 2
  omega
theorem takeJ_one {W : List Str} {take : Nat → Option (Cd × Nat)} {o : Bool} {i j : Nat} {c : Cd} (h : take i = some (c, j)) (hn : wordAt W j ≠ jw o) : takeJ W take o i = some (c, j) := by
  unfold takeJ loopJ
  rw [h]
  show (if wordAt W j = jw o then _ else some ([c], j) : Option (List Cd × Nat)).map _ = _
  rw [if_neg hn]
  rfl
theorem takeJ_none {W : List Str} {take : Nat → Option (Cd × Nat)} {o : Bool} {i : Nat} (h : take i = none) : takeJ W take o i = none := by
  unfold takeJ loopJ
  rw [h]
  rfl
def tk (W : List Str) (n : Nat) : Bool → Nat → Option (Cd × Nat)
  | false => opnd W n
  | true => takeAnd W n
def RA (c : Cd) (p : Nat) (w : List Str) (d : Nat) : Prop := (1 ≤ p ∨ okIn false c) → ∀ n pre suf, Sf suf → opnd (pre ++ (w ++ suf)) n pre.length = if d ≤ n then some (c, pre.length + w.length) else none
def RB (c : Cd) (p : Nat) (w : List Str) (d : Nat) : Prop := (1 ≤ p ∨ okIn true c) → ∀ n pre suf, Sf suf → wordAt suf 0 ≠ "and" → takeAnd (pre ++ (w ++ suf)) n pre.length = if d ≤ n then some (c, pre.length + w.length) else none
def RC (c : Cd) (w : List Str) (d : Nat) : Prop := ∀ n pre suf, Sf suf → wordAt suf 0 ≠ "and" → wordAt suf 0 ≠ "or" → takeOr (pre ++ (w ++ suf)) n pre.length = if d ≤ n then some (c, pre.length + w.length) else none
theorem behind (pre w suf : List Str) : wordAt (pre ++ (w ++ suf)) (pre.length + w.length) = wordAt suf 0 := by
  have := wordAt_pre (pre ++ w) suf 0
  rw [List.append_assoc, List.length_append, Nat.add_zero] at this
  exact this
theorem rb_of {c : Cd} {p : Nat} {w : List Str} {d : Nat} (a : RA c p w d) (h : 1 ≤ p ∨ okIn false c) : RB c p w d := fun _ n pre suf hf h1 => by
  have q := a h n pre suf hf
  unfold takeAnd
  by_cases hd : d ≤ n
  · rw [if_pos hd] at q ⊢
    exact takeJ_one q (by rw [behind]; exact h1)
  · rw [if_neg hd] at q ⊢
    exact takeJ_none q
theorem rc_of {c : Cd} {p : Nat} {w : List Str} {d : Nat} (b : RB c p w d) (h : 1 ≤ p ∨ okIn true c) : RC c w d := fun n pre suf hf h1 h2 => by
  have q := b h n pre suf hf h1
  unfold takeOr
  by_cases hd : d ≤ n
  · rw [if_pos hd] at q ⊢
    exact takeJ_one q (by rw [behind]; exact h2)
  · rw [if_neg hd] at q ⊢
    exact takeJ_none q
theorem dr_len : ∀ {c : Cd} {p : Nat} {w : List Str} {d : Nat}, Dr c p w d → 1 ≤ w.length
  | _, _, _, _, .par _ => by simp
  | _, _, _, _, .cmp _ _ _ => by simp only [List.length_append, List.length_cons]; omega
  | _, _, _, _, .no _ _ => by simp
  | _, _, _, _, .jn h (.cons (ws := ws) h1 _ h2) => by
    have := dr_len h1
    cases ws with
    | nil => exact this
    | cons v r => simp only [seps, List.length_append, List.length_cons]; omega
  | _, _, _, _, .jn h .nil => absurd h (by decide)
theorem seps_len {o : Bool} : ∀ {cs : List Cd} {ws : List (List Str)} {d : Nat}, DrAll o cs ws d → cs.length ≤ (seps o ws).length
  | _, _, _, .nil => Nat.zero_le _
  | _, _, _, .cons (ws := ws) h1 _ h2 => by
    have q := dr_len h1
    have r := seps_len h2
    cases ws with
    | nil =>
      cases h2
      exact q
    | cons v r' => simp only [seps, List.length_append, List.length_cons] at r ⊢; omega
def RR (c : Cd) (p : Nat) (w : List Str) (d : Nat) : Prop := RA c p w d ∧ RB c p w d ∧ RC c w d
def MS (o : Bool) (cs : List Cd) (ws : List (List Str)) (d : Nat) : Prop := ∀ (n : Nat) (pre suf : List Str) (f : Nat), cs ≠ [] → Sf suf → wordAt suf 0 ≠ jw o → (o = true → wordAt suf 0 ≠ "and") → cs.length ≤ f →
    loopJ (pre ++ (seps o ws ++ suf)) (tk (pre ++ (seps o ws ++ suf)) n o) (jw o) f pre.length = if d ≤ n then some (cs, pre.length + (seps o ws).length) else none
theorem m_par {c : Cd} {p : Nat} {w : List Str} {d : Nat} (hr : RR c p w d) : RR c (p + 1) (("(" : Str) :: (w ++ [(")" : Str)])) (d + 1) := by
    have hc := hr.2.2
    have a : RA c (p + 1) (("(" : Str) :: (w ++ [(")" : Str)])) (d + 1) := fun _ n pre suf hf => by
      have h0 := wordAt_pre pre ((("(" : Str) :: (w ++ [(")" : Str)])) ++ suf) 0
      rw [Nat.add_zero, show wordAt ((("(" : Str) :: (w ++ [(")" : Str)])) ++ suf) 0 = "(" from rfl] at h0
      cases n with
      | zero =>
        rw [if_neg (by omega)]
        unfold opnd
        rw [h0, if_pos (.inr rfl)]
      | succ n =>
        have q := hc n (pre ++ [("(" : Str)]) ((")" : Str) :: suf) (sf_par _) (by show (")" : Str) ≠ "and"; decide +kernel) (by show (")" : Str) ≠ "or"; decide +kernel)
        have b := behind (pre ++ [("(" : Str)]) w ((")" : Str) :: suf)
        have r1 : pre ++ [("(" : Str)] ++ (w ++ ((")" : Str) :: suf)) = pre ++ ((("(" : Str) :: (w ++ [(")" : Str)])) ++ suf) := by simp
        have l1 : (pre ++ [("(" : Str)]).length = pre.length + 1 := by simp
        rw [r1, l1] at q b
        have l2 : ((("(" : Str) :: (w ++ [(")" : Str)]))).length = w.length + 2 := by simp
        unfold opnd
        rw [h0, if_neg (by decide +kernel), if_pos rfl]
        have q : takeJ (pre ++ ((("(" : Str) :: (w ++ [(")" : Str)])) ++ suf)) (takeJ (pre ++ ((("(" : Str) :: (w ++ [(")" : Str)])) ++ suf)) (opnd (pre ++ ((("(" : Str) :: (w ++ [(")" : Str)])) ++ suf)) n) false) true (pre.length + 1) = if d ≤ n then some (c, pre.length + 1 + w.length) else none := q
        rw [q]
        by_cases hd : d ≤ n
        · rw [if_pos hd, if_pos (by omega)]
          show (if wordAt _ (pre.length + 1 + w.length) = ")" then _ else none) = _
          rw [b, show wordAt ((")" : Str) :: suf) 0 = ")" from rfl, if_pos rfl, l2]
          congr 2
          omega
        · rw [if_neg hd, if_neg (by omega)]
    have b := rb_of a (.inl (by omega))
    exact ⟨a, b, rc_of b (.inl (by omega))⟩
theorem m_cmp {s : Str} {l r : Ex} (hs : s ∈ SIG) (gl : Good l) (gr : Good r) : RR (.cmp s l r) 0 (wordsE l ++ (s :: wordsE r)) 0 := by
    have a : RA (.cmp s l r) 0 (wordsE l ++ (s :: wordsE r)) 0 := fun _ n pre suf hf => by
      have h0 := wordAt_pre pre ((wordsE l ++ (s :: wordsE r)) ++ suf) 0
      have e0 : (wordsE l ++ (s :: wordsE r)) ++ suf = wordsE l ++ ((s :: wordsE r) ++ suf) := List.append_assoc ..
      rw [Nat.add_zero] at h0
      have f := first_word gl ((s :: wordsE r) ++ suf)
      rw [← e0, ← h0] at f
      rw [if_pos (Nat.zero_le n)]
      cases n with
      | zero =>
        unfold opnd
        rw [if_neg (fun z => z.elim f.1 f.2)]
        exact cmp_read hs gl gr hf
      | succ n =>
        unfold opnd
        rw [if_neg f.1, if_neg f.2]
        exact cmp_read hs gl gr hf
    have b := rb_of a (.inr True.intro)
    exact ⟨a, b, rc_of b (.inr True.intro)⟩
theorem m_no {c : Cd} {q : Nat} {w : List Str} {d : Nat} (hr : RR c q w d) (hq : 1 ≤ q ∨ okIn false c) : RR (.no c) 0 (("not" : Str) :: w) (d + 1) := by
    have ha := hr.1 hq
    have a : RA (.no c) 0 (("not" : Str) :: w) (d + 1) := fun _ n pre suf hf => by
      have h0 := wordAt_pre pre ((("not" : Str) :: w) ++ suf) 0
      rw [Nat.add_zero, show wordAt ((("not" : Str) :: w) ++ suf) 0 = "not" from rfl] at h0
      cases n with
      | zero =>
        rw [if_neg (by omega)]
        unfold opnd
        rw [h0, if_pos (.inl rfl)]
      | succ n =>
        have q := ha n (pre ++ [("not" : Str)]) suf hf
        have r1 : pre ++ [("not" : Str)] ++ (w ++ suf) = pre ++ ((("not" : Str) :: w) ++ suf) := by simp
        have l1 : (pre ++ [("not" : Str)]).length = pre.length + 1 := by simp
        rw [r1, l1] at q
        unfold opnd
        rw [h0, if_pos rfl, q]
        by_cases hd : d ≤ n
        · rw [if_pos hd, if_pos (by omega)]
          show some (Cd.no c, pre.length + 1 + w.length) = some (Cd.no c, pre.length + (w.length + 1))
          congr 2
          omega
        · rw [if_neg hd, if_neg (by omega)]
          rfl
    have b := rb_of a (.inr True.intro)
    exact ⟨a, b, rc_of b (.inr True.intro)⟩
theorem m_jn {o : Bool} {cs : List Cd} {ws : List (List Str)} {d : Nat} (h2 : 2 ≤ cs.length) (h : DrAll o cs ws d) (hm : MS o cs ws d) : RR (.jn o cs) 0 (seps o ws) d := by
    have hl := seps_len h
    have ne : cs ≠ [] := fun z => by rw [z] at h2; exact absurd h2 (by decide)
    have jo : joinOf o cs = .jn o cs := by
      match cs, h2 with
      | a :: b :: r, _ => rfl
    cases o with
    | false =>
      have b : RB (.jn false cs) 0 (seps false ws) d := fun _ n pre suf hf h1 => by
        have q := hm n pre suf ((pre ++ (seps false ws ++ suf)).length + 1) ne hf h1 (fun z => by cases z) (by simp only [List.length_append]; omega)
        unfold takeAnd takeJ
        have q : loopJ (pre ++ (seps false ws ++ suf)) (opnd (pre ++ (seps false ws ++ suf)) n) (jw false) ((pre ++ (seps false ws ++ suf)).length + 1) pre.length = _ := q
        rw [q]
        by_cases hd : d ≤ n
        · rw [if_pos hd, if_pos hd]
          show some (joinOf false cs, _) = _
          rw [jo]
        · rw [if_neg hd, if_neg hd]
          rfl
      exact ⟨fun z => z.elim (fun z => absurd z (by decide)) (fun z => z.elim), b, rc_of b (.inr True.intro)⟩
    | true =>
      refine ⟨fun z => z.elim (fun z => absurd z (by decide)) (fun z => z.elim), fun z => z.elim (fun z => absurd z (by decide)) (fun z => z.elim), fun n pre suf hf h1 h3 => ?_⟩
      have q := hm n pre suf ((pre ++ (seps true ws ++ suf)).length + 1) ne hf h3 (fun _ => h1) (by simp only [List.length_append]; omega)
      unfold takeOr takeJ
      have q : loopJ (pre ++ (seps true ws ++ suf)) (takeAnd (pre ++ (seps true ws ++ suf)) n) (jw true) ((pre ++ (seps true ws ++ suf)).length + 1) pre.length = _ := q
      rw [q]
      by_cases hd : d ≤ n
      · rw [if_pos hd, if_pos hd]
        show some (joinOf true cs, _) = _
        rw [jo]
      · rw [if_neg hd, if_neg hd]
        rfl
theorem ms_cons {o : Bool} {c : Cd} {cs : List Cd} {q : Nat} {w : List Str} {ws : List (List Str)} {d e : Nat} (hm : RR c q w d) (hq : 1 ≤ q ∨ okIn o c) (hr : DrAll o cs ws e) (mt : MS o cs ws e) : MS o (c :: cs) (w :: ws) (max d e) := fun n pre suf f _ hf h1 h2 hl => by
    have one : ∀ pre suf, Sf suf → (o = true → wordAt suf 0 ≠ "and") → tk (pre ++ (w ++ suf)) n o pre.length = if d ≤ n then some (c, pre.length + w.length) else none := fun pre suf hf h2 => by
      cases o with
      | false => exact hm.1 hq n pre suf hf
      | true => exact hm.2.1 hq n pre suf hf (h2 rfl)
    obtain ⟨f, rfl⟩ : ∃ g, f = g + 1 := ⟨f - 1, by rw [List.length_cons] at hl; omega⟩
    cases ws with
    | nil =>
      cases hr
      have q := one pre suf hf h2
      unfold loopJ
      show (match tk (pre ++ (w ++ suf)) n o pre.length with | none => none | some (c, j) => if wordAt (pre ++ (w ++ suf)) j = jw o then _ else some ([c], j)) = _
      rw [q]
      by_cases hd : d ≤ n
      · rw [if_pos hd, if_pos (by omega)]
        show (if wordAt (pre ++ (w ++ suf)) (pre.length + w.length) = jw o then _ else some ([c], pre.length + w.length)) = _
        rw [behind, if_neg h1]
        rfl
      · rw [if_neg hd, if_neg (by omega)]
    | cons v r =>
      have ne : cs ≠ [] := by
        intro z
        rw [z] at hr
        cases hr
      have q := one pre (jw o :: (seps o (v :: r) ++ suf)) (sf_jw o _) (fun z => by rw [z]; show ("or" : Str) ≠ "and"; decide +kernel)
      have b := behind pre w (jw o :: (seps o (v :: r) ++ suf))
      have t := mt n (pre ++ w ++ [jw o]) suf f ne hf h1 h2 (by rw [List.length_cons] at hl; omega)
      have r1 : pre ++ (w ++ (jw o :: (seps o (v :: r) ++ suf))) = pre ++ (seps o (w :: v :: r) ++ suf) := by simp [seps]
      have r2 : pre ++ w ++ [jw o] ++ (seps o (v :: r) ++ suf) = pre ++ (seps o (w :: v :: r) ++ suf) := by simp [seps]
      have l1 : (pre ++ w ++ [jw o]).length = pre.length + w.length + 1 := by simp only [List.length_append, List.length_cons, List.length_nil]
      have l2 : (seps o (w :: v :: r)).length = w.length + 1 + (seps o (v :: r)).length := by simp only [seps, List.length_append, List.length_cons]; omega
      rw [r1] at q b
      rw [r2, l1] at t
      unfold loopJ
      rw [q]
      by_cases hd : d ≤ n
      · rw [if_pos hd]
        show (if wordAt _ (pre.length + w.length) = jw o then _ else _) = _
        rw [b, if_pos (show wordAt (jw o :: (seps o (v :: r) ++ suf)) 0 = jw o from rfl), t]
        by_cases he : e ≤ n
        · rw [if_pos he, if_pos (by omega), l2]
          show some (c :: cs, _) = _
          congr 2
          omega
        · rw [if_neg he, if_neg (by omega)]
      · rw [if_neg hd, if_neg (by omega)]
theorem main {c : Cd} {p : Nat} {w : List Str} {d : Nat} (h : Dr c p w d) : RR c p w d :=
  Dr.rec (motive_1 := fun c p w d _ => RR c p w d) (motive_2 := fun o cs ws d _ => MS o cs ws d) (fun _ hr => m_par hr) (fun hs gl gr => m_cmp hs gl gr) (fun _ hq hr => m_no hr hq) (fun h2 h hm => m_jn h2 h hm)
    (fun n pre suf f ne => absurd rfl ne) (fun _ hq hr hm mt => ms_cons hm hq hr mt) h
theorem read_dressed {c : Cd} {p : Nat} {w : List Str} {d : Nat} (h : Dr c p w d) : readC w = if d ≤ 8 then some c else none := by
  have q := (main h).2.2 8 [] [] ⟨noSign_nil, by show ("" : Str) ≠ "["; decide +kernel⟩ (by show ("" : Str) ≠ "and"; decide +kernel) (by show ("" : Str) ≠ "or"; decide +kernel)
  rw [List.nil_append, List.append_nil, List.length_nil, Nat.zero_add] at q
  unfold readC
  rw [q]
  by_cases hd : d ≤ 8
  · rw [if_pos hd, if_pos hd]
    exact if_pos rfl
  · rw [if_neg hd, if_neg hd]
    rfl
end W7
namespace W8
open PySem PySem.Spec PyProof.Rows L2 Wy WM W3 W4 W5 W7
/-! ### reading goes on -/
theorem plus_gt {ws : List Str} {i j : Nat} {p : Int} (h : takePlus ws i = some (p, j)) : i ≤ j := by
  unfold takePlus at h
  split at h
  · split at h
    · cases h
      omega
    · cases h
  · cases h
    exact Nat.le_refl _
theorem signed_gt {ws : List Str} {i j : Nat} {p : Int} (h : takeSigned ws i = some (p, j)) : i < j := by
  unfold takeSigned at h
  split at h
  · cases h
    omega
  · split at h
    · cases h
      omega
    · cases h
theorem plain_gt {ws : List Str} {i j : Nat} {e : Ex} (h : takePlain ws i = some (e, j)) : i < j := by
  unfold takePlain at h
  split at h
  · cases q : takePlus ws (i + 1) with
    | none =>
      rw [q] at h
      cases h
    | some r =>
      obtain ⟨p, k⟩ := r
      rw [q] at h
      have := plus_gt q
      cases h
      omega
  · cases q : takeSigned ws i with
    | none =>
      rw [q] at h
      cases h
    | some r =>
      obtain ⟨p, k⟩ := r
      rw [q] at h
      have := signed_gt q
      cases h
      omega
theorem expr_gt {ws : List Str} {i j : Nat} {e : Ex} (h : takeExpr ws i = some (e, j)) : i < j := by
  unfold takeExpr at h
  split at h
  · cases q : takePlain ws (i + 2) with
    | none =>
      rw [q] at h
      cases h
    | some r =>
      obtain ⟨x, k⟩ := r
      rw [q] at h
      have g := plain_gt q
      have h : (if wordAt ws k = "]" then (match takePlus ws (k + 1) with | none => none | some (p, m) => some (Ex.item (wordAt ws i) x p, m)) else none) = some (e, j) := h
      split at h
      · cases q2 : takePlus ws (k + 1) with
        | none =>
          rw [q2] at h
          cases h
        | some r2 =>
          obtain ⟨p, m⟩ := r2
          rw [q2] at h
          have g2 := plus_gt q2
          cases h
          omega
      · cases h
  · exact plain_gt h
theorem cmp_gt {ws : List Str} {i j : Nat} {c : Cd} (h : takeCmp ws i = some (c, j)) : i < j := by
  unfold takeCmp at h
  cases q : takeExpr ws i with
  | none =>
    rw [q] at h
    cases h
  | some r =>
    obtain ⟨x, k⟩ := r
    rw [q] at h
    have g := expr_gt q
    have h : (if wordAt ws k ∈ SIG then (match takeExpr ws (k + 1) with | none => none | some (r, m) => some (Cd.cmp (wordAt ws k) x r, m)) else none) = some (c, j) := h
    split at h
    · cases q2 : takeExpr ws (k + 1) with
      | none =>
        rw [q2] at h
        cases h
      | some r2 =>
        obtain ⟨p, m⟩ := r2
        rw [q2] at h
        have g2 := expr_gt q2
        cases h
        omega
    · cases h
theorem loop_gt {ws : List Str} {take : Nat → Option (Cd × Nat)} {word : Str} (ht : ∀ i c j, take i = some (c, j) → i < j) : ∀ {f i k : Nat} {cs : List Cd}, loopJ ws take word f i = some (cs, k) → i < k
  | 0, _, _, _, h => by cases h
  | f + 1, i, k, cs, h => by
    unfold loopJ at h
    cases q : take i with
    | none =>
      rw [q] at h
      cases h
    | some r =>
      obtain ⟨c, j⟩ := r
      rw [q] at h
      have g := ht _ _ _ q
      have h : (if wordAt ws j = word then (match loopJ ws take word f (j + 1) with | none => none | some (cs, k) => some (c :: cs, k)) else some ([c], j)) = some (cs, k) := h
      split at h
      · cases q2 : loopJ ws take word f (j + 1) with
        | none =>
          rw [q2] at h
          cases h
        | some r2 =>
          obtain ⟨cs2, m⟩ := r2
          rw [q2] at h
          have g2 := loop_gt ht q2
          cases h
          omega
      · cases h
        exact g
theorem takeJ_gt {ws : List Str} {take : Nat → Option (Cd × Nat)} {o : Bool} (ht : ∀ i c j, take i = some (c, j) → i < j) {i j : Nat} {c : Cd} (h : takeJ ws take o i = some (c, j)) : i < j := by
  unfold takeJ at h
  cases q : loopJ ws take (jw o) (ws.length + 1) i with
  | none =>
    rw [q] at h
    cases h
  | some r =>
    obtain ⟨cs, k⟩ := r
    rw [q] at h
    have g := loop_gt ht q
    cases h
    exact g
theorem opnd_gt {ws : List Str} : ∀ {n i j : Nat} {c : Cd}, opnd ws n i = some (c, j) → i < j
  | 0, i, j, c, h => by
    unfold opnd at h
    split at h
    · cases h
    · exact cmp_gt h
  | n + 1, i, j, c, h => by
    unfold opnd at h
    split at h
    · cases q : opnd ws n (i + 1) with
      | none =>
        rw [q] at h
        cases h
      | some r =>
        obtain ⟨x, k⟩ := r
        rw [q] at h
        have g := opnd_gt q
        cases h
        omega
    · split at h
      · cases q : takeJ ws (takeJ ws (opnd ws n) false) true (i + 1) with
        | none =>
          rw [q] at h
          cases h
        | some r =>
          obtain ⟨x, k⟩ := r
          rw [q] at h
          have g := takeJ_gt (fun i c j h => takeJ_gt (fun i c j h => opnd_gt h) h) q
          have h : (if wordAt ws k = ")" then some (x, k + 1) else none) = some (c, j) := h
          split at h
          · cases h
            omega
          · cases h
      · exact cmp_gt h
theorem tk_gt {ws : List Str} {n : Nat} : ∀ (o : Bool) {i j : Nat} {c : Cd}, tk ws n o i = some (c, j) → i < j
  | false, _, _, _, h => opnd_gt h
  | true, _, _, _, h => takeJ_gt (fun i c j h => opnd_gt h) h
theorem inV_list {x : Str} : ∀ {l : List Str}, inV (.str x) (l.map V.str) = decide (x ∈ l)
  | [] => by simp [inV]
  | y :: l => by
    have ih := inV_list (x := x) (l := l)
    show ((y == x) || inV (.str x) (l.map V.str)) = _
    rw [ih, Bool.eq_iff_iff, Bool.or_eq_true, beq_iff_eq, decide_eq_true_iff, decide_eq_true_iff, List.mem_cons]
    exact ⟨fun h => h.imp Eq.symm id, fun h => h.imp Eq.symm id⟩
def cD : Option (Cd × Nat) → PyData
  | none => .none
  | some (c, j) => .tuple [c.d, .int (j : Int)]
def oC : Option Cd → PyData
  | none => .none
  | some c => c.d
theorem ds_len : ∀ {cs : List Cd}, (Cd.ds cs).length = cs.length
  | [] => rfl
  | _ :: _ => congrArg (· + 1) ds_len
theorem ds_snoc {c : Cd} : ∀ {cs : List Cd}, Cd.ds (cs ++ [c]) = Cd.ds cs ++ [c.d]
  | [] => rfl
  | _ :: _ => congrArg (_ :: ·) ds_snoc
theorem tpSnoc {H : Hp} {v : V} {d : PyData} : ∀ {vs : List V} {ds : List PyData}, TpAll H vs ds → Tp H v d → TpAll H (vs ++ [v]) (ds ++ [d])
  | _, _, .nil, h => .cons h .nil
  | _, _, .cons h1 h2, h => .cons h1 (tpSnoc h2 h)
end W8
namespace W9
open PySem PySem.Spec PyProof.Rows L2 Wy WM W3 W4 W5 W7 W8
/-! ### texts that hold words -/
def TextOf (z : Str) (ws : List Str) : Prop := ∃ g, tl z = glue g ∧ GlueOk g ∧ g ≠ [] ∧ g.map (fun q => mkS q.1) = ws
theorem TextOf.words {z : Str} {ws : List Str} (h : TextOf z ws) : wordsW z = some ws := by
  obtain ⟨g, h1, h2, _, h4⟩ := h
  rw [words_glue (k := 0) h2 (by rw [h1]; rfl)]
  exact congrArg some h4
theorem goodG_ne {e : Ex} (h : Good e) : goodG e ≠ [] := by
  intro z
  have := good_words h
  have t := good_tl h
  rw [z] at t
  cases e with
  | num n =>
    have hn : n.natAbs < 10 ^ 10 := h
    have w : (wordsE (.num n)).length ≤ 0 := by
      have e2 := words_glue (z := textE (.num n)) (k := 0) (l := []) True.intro (by rw [t]; rfl)
      rw [this] at e2
      have e2 := Option.some.inj e2
      rw [e2]
      exact Nat.le_refl _
    unfold wordsE at w
    split at w <;> simp at w
  | var x p =>
    have e2 := words_glue (z := textE (.var x p)) (k := 0) (l := []) True.intro (by rw [t]; rfl)
    rw [this] at e2
    have e2 := Option.some.inj e2
    cases e2
  | item x i p =>
    have e2 := words_glue (z := textE (.item x i p)) (k := 0) (l := []) True.intro (by rw [t]; rfl)
    rw [this] at e2
    have e2 := Option.some.inj e2
    cases e2
theorem to_expr {e : Ex} (h : Good e) : TextOf (textE e) (wordsE e) := by
  refine ⟨goodG e, good_tl h, good_glue h, goodG_ne h, ?_⟩
  have q := words_glue (k := 0) (good_glue h) (by rw [good_tl h]; rfl)
  rw [good_words h] at q
  exact (Option.some.inj q).symm
theorem to_tok {s : Str} (h : W4.Tok s) : TextOf s [s] := ⟨[(tl s, 0)], by simp [glue], h, by simp, by simp [mkS]⟩
/-- a space behind -/
def gap : List (List Nat × Nat) → List (List Nat × Nat)
  | [] => []
  | [(w, n)] => [(w, n + 1)]
  | x :: y :: r => x :: gap (y :: r)
theorem glue_gap : ∀ {a : List (List Nat × Nat)}, a ≠ [] → ∀ b, glue (gap a ++ b) = glue a ++ (32 :: glue b)
  | [], h, _ => absurd rfl h
  | [(w, n)], _, b => by
    show w ++ (List.replicate (n + 1) 32 ++ glue b) = w ++ (List.replicate n 32 ++ []) ++ (32 :: glue b)
    rw [List.replicate_succ']
    simp
  | (w, n) :: y :: r, _, b => by
    have ih := glue_gap (a := y :: r) (by simp) b
    show w ++ (List.replicate n 32 ++ glue (gap (y :: r) ++ b)) = w ++ (List.replicate n 32 ++ glue (y :: r)) ++ (32 :: glue b)
    rw [ih]
    simp
theorem gap_head : ∀ {y : List Nat × Nat} {r : List (List Nat × Nat)}, ∃ m t, gap (y :: r) = (y.1, m) :: t
  | (w, n), [] => ⟨n + 1, [], rfl⟩
  | (w, n), z :: r => ⟨n, gap (z :: r), rfl⟩
theorem ok_gap : ∀ {a b : List (List Nat × Nat)}, GlueOk a → a ≠ [] → GlueOk b → GlueOk (gap a ++ b)
  | [], _, _, h, _ => absurd rfl h
  | [(w, n)], b, h1, _, h3 => by
    refine glue_cons h1 (fun _ _ _ _ => .inl (Nat.succ_pos n)) h3
  | (w, n) :: (v, m) :: r, b, h1, _, h3 => by
    have ih := ok_gap (a := (v, m) :: r) h1.2.2 (by simp) h3
    obtain ⟨k, t, e⟩ := gap_head (y := (v, m)) (r := r)
    show GlueOk ((w, n) :: (gap ((v, m) :: r) ++ b))
    rw [e] at ih ⊢
    exact ⟨h1.1, h1.2.1, ih⟩
theorem gap_map : ∀ (a : List (List Nat × Nat)), (gap a).map (fun q => mkS q.1) = a.map fun q => mkS q.1
  | [] => rfl
  | [(w, n)] => rfl
  | x :: y :: r => congrArg (_ :: ·) (gap_map (y :: r))
theorem gap_ne {a : List (List Nat × Nat)} (h : a ≠ []) : gap a ≠ [] := by
  match a, h with
  | [(w, n)], _ => simp [gap]
  | x :: y :: r, _ => simp [gap]
theorem to_sp {x y : Str} {a b : List Str} (h : TextOf x a) (k : TextOf y b) : TextOf (x ++ (" " : Str) ++ y) (a ++ b) := by
  obtain ⟨g, h1, h2, h3, h4⟩ := h
  obtain ⟨g', k1, k2, k3, k4⟩ := k
  refine ⟨gap g ++ g', ?_, ok_gap h2 h3 k2, by simp [gap_ne h3], by rw [List.map_append, gap_map, h4, k4]⟩
  rw [glue_gap h3, tl_app, tl_app, h1, k1, show tl (" " : Str) = [32] by decide +kernel]
  simp
theorem no40 : (40 : Nat) ∉ tl LET ∧ 40 ∉ tl DIG ∧ 40 ∉ EQS := by decide +kernel
theorem no41 : (41 : Nat) ∉ tl LET ∧ 41 ∉ tl DIG ∧ 41 ∉ EQS := by decide +kernel
theorem to_par {x : Str} {a : List Str} (h : TextOf x a) : TextOf (("(" : Str) ++ x ++ (")" : Str)) (("(" : Str) :: (a ++ [(")" : Str)])) := by
  obtain ⟨g, h1, h2, h3, h4⟩ := h
  have e1 : tl ("(" : Str) = [40] := by decide +kernel
  have e2 : tl (")" : Str) = [41] := by decide +kernel
  have t1 : IsTok [40] := tok_one (by decide +kernel)
  have t2 : IsTok [41] := tok_one (by decide +kernel)
  refine ⟨([40], 0) :: (g ++ [([41], 0)]), ?_, ?_, by simp, ?_⟩
  · rw [tl_app, tl_app, e1, e2, h1]
    show _ = [40] ++ (List.replicate 0 32 ++ glue (g ++ [([41], 0)]))
    rw [glue_app]
    simp [glue]
  · refine glue_cons t1 (fun v m r _ => .inr (no_join_sho no40 (.inl rfl))) ?_
    exact glue_join h2 (fun v => no_join_sho no41 (.inr rfl)) t2
  · rw [List.map_cons, List.map_append, h4]
    rw [show mkS ([40] : List Nat) = ("(" : Str) by decide +kernel]
    show _ = _
    rw [show ([([41], 0)] : List (List Nat × Nat)).map (fun q => mkS q.1) = [(")" : Str)] by decide +kernel]
/-! ### the text of a condition -/
def needB : Bool → Cd → Bool
  | false, .jn _ _ => true
  | true, .jn true _ => true
  | _, _ => false
def wrap (b : Bool) (z : Str) : Str := if b then ("(" : Str) ++ z ++ (")" : Str) else z
def wrapW (b : Bool) (w : List Str) : List Str := if b then ("(" : Str) :: (w ++ [(")" : Str)]) else w
def joinS (o : Bool) : List Str → Str
  | [] => Str.empty
  | [x] => x
  | x :: y :: r => x ++ (" " : Str) ++ jw o ++ (" " : Str) ++ joinS o (y :: r)
mutual
def textC : Cd → Str
  | .cmp s l r => textE l ++ (" " : Str) ++ s ++ (" " : Str) ++ textE r
  | .no c => ("not" : Str) ++ (" " : Str) ++ wrap (needB false c) (textC c)
  | .jn o cs => joinS o (textsC o cs)
def textsC (o : Bool) : List Cd → List Str
  | [] => []
  | c :: cs => wrap (needB o c) (textC c) :: textsC o cs
end
mutual
def wC : Cd → List Str
  | .cmp s l r => wordsE l ++ (s :: wordsE r)
  | .no c => ("not" : Str) :: wrapW (needB false c) (wC c)
  | .jn o cs => seps o (wsC o cs)
def wsC (o : Bool) : List Cd → List (List Str)
  | [] => []
  | c :: cs => wrapW (needB o c) (wC c) :: wsC o cs
end
mutual
def dC : Cd → Nat
  | .cmp _ _ _ => 0
  | .no c => dC c + (if needB false c then 1 else 0) + 1
  | .jn o cs => dsC o cs
def dsC (o : Bool) : List Cd → Nat
  | [] => 0
  | c :: cs => max (dC c + (if needB o c then 1 else 0)) (dsC o cs)
end
mutual
def okC : Cd → Prop
  | .cmp s l r => s ∈ SIG ∧ Good l ∧ Good r
  | .no c => okC c
  | .jn _ cs => 2 ≤ cs.length ∧ oksC cs
def oksC : List Cd → Prop
  | [] => True
  | c :: cs => okC c ∧ oksC cs
end
theorem need_ok {o : Bool} {c : Cd} (h : needB o c = false) : okIn o c := by
  cases o <;> cases c with
  | cmp _ _ _ => exact True.intro
  | no _ => exact True.intro
  | jn o2 cs => first | (cases h; done) | (cases o2 <;> first | (cases h; done) | exact True.intro)
theorem dr_wrap {c : Cd} {w : List Str} {d : Nat} (o : Bool) (h : Dr c 0 w d) : ∃ q, Dr c q (wrapW (needB o c) w) (d + (if needB o c then 1 else 0)) ∧ (1 ≤ q ∨ okIn o c) := by
  cases e : needB o c with
  | false => exact ⟨0, h, .inr (need_ok e)⟩
  | true => exact ⟨1, .par h, .inl (Nat.le_refl 1)⟩
mutual
theorem dr_plain : ∀ {c : Cd}, okC c → Dr c 0 (wC c) (dC c)
  | .cmp s l r, h => by
    rw [okC] at h
    rw [wC, dC]
    exact .cmp h.1 h.2.1 h.2.2
  | .no c, h => by
    rw [okC] at h
    obtain ⟨q, h1, h2⟩ := dr_wrap false (dr_plain h)
    rw [wC, dC]
    exact .no h1 h2
  | .jn o cs, h => by
    rw [okC] at h
    rw [wC, dC]
    exact .jn h.1 (dr_plains o h.2)
theorem dr_plains (o : Bool) : ∀ {cs : List Cd}, oksC cs → DrAll o cs (wsC o cs) (dsC o cs)
  | [], _ => .nil
  | c :: cs, h => by
    rw [oksC] at h
    obtain ⟨q, h1, h2⟩ := dr_wrap o (dr_plain h.1)
    rw [wsC, dsC]
    exact .cons h1 h2 (dr_plains o h.2)
end
theorem tok_sig {s : Str} (h : s ∈ SIG) : W4.Tok s := by
  have one : ∀ s ∈ (["<", ">"] : List Str), ∃ c, tl s = [c] ∧ c ∈ tl SHO := by
    intro s hs
    rcases List.mem_cons.mp hs with rfl | hs
    · exact ⟨60, by decide +kernel, by decide +kernel⟩
    · rcases List.mem_cons.mp hs with rfl | hs
      · exact ⟨62, by decide +kernel, by decide +kernel⟩
      · cases hs
  have two : ∀ s ∈ (["<=", ">=", "==", "!="] : List Str), ∃ c, tl s = [c, 61] ∧ c ∈ EQS := by
    intro s hs
    rcases List.mem_cons.mp hs with rfl | hs
    · exact ⟨60, by decide +kernel, by decide +kernel⟩
    · rcases List.mem_cons.mp hs with rfl | hs
      · exact ⟨62, by decide +kernel, by decide +kernel⟩
      · rcases List.mem_cons.mp hs with rfl | hs
        · exact ⟨61, by decide +kernel, by decide +kernel⟩
        · rcases List.mem_cons.mp hs with rfl | hs
          · exact ⟨33, by decide +kernel, by decide +kernel⟩
          · cases hs
  have sp : ∀ s ∈ SIG, s ∈ (["<", ">"] : List Str) ∨ s ∈ (["<=", ">=", "==", "!="] : List Str) := by decide +kernel
  rcases sp s h with h | h
  · obtain ⟨c, e, hc⟩ := one s h
    exact tok_sho e hc
  · obtain ⟨c, e, hc⟩ := two s h
    unfold W4.Tok
    rw [e]
    exact tok_two hc
theorem tok_word {s : Str} (h : s ∈ (["not", "and", "or"] : List Str)) : W4.Tok s := by
  have : ∀ s ∈ (["not", "and", "or"] : List Str), tl s ≠ [] ∧ ∀ c ∈ tl s, c ∈ tl LET := by decide +kernel
  exact tok_let (this s h).1 (this s h).2
theorem to_wrap {z : Str} {w : List Str} (b : Bool) (h : TextOf z w) : TextOf (wrap b z) (wrapW b w) := by
  cases b with
  | false => exact h
  | true => exact to_par h
inductive Texts : List Str → List (List Str) → Prop
  | nil : Texts [] []
  | cons {z : Str} {w : List Str} {zs : List Str} {ws : List (List Str)} : TextOf z w → Texts zs ws → Texts (z :: zs) (w :: ws)
theorem to_join {o : Bool} : ∀ {zs : List Str} {ws : List (List Str)}, Texts zs ws → zs ≠ [] → TextOf (joinS o zs) (seps o ws)
  | _, _, .nil, h => absurd rfl h
  | _, _, .cons h .nil, _ => h
  | _, _, .cons (z := z) (w := w) h (.cons (z := y) (w := v) (zs := zs) (ws := ws) h2 r), _ => by
    have ih := to_join (o := o) (.cons h2 r) (by simp)
    have t := to_sp (to_sp h (to_tok (tok_word (s := jw o) (by cases o <;> decide +kernel)))) ih
    have e : w ++ [jw o] ++ seps o (v :: ws) = seps o (w :: v :: ws) := by simp [seps]
    rw [e] at t
    exact t
mutual
theorem text_words : ∀ {c : Cd}, okC c → TextOf (textC c) (wC c)
  | .cmp s l r, h => by
    rw [okC] at h
    rw [textC, wC]
    have t := to_sp (to_sp (to_expr h.2.1) (to_tok (tok_sig h.1))) (to_expr h.2.2)
    rw [List.append_assoc] at t
    exact t
  | .no c, h => by
    rw [okC] at h
    rw [textC, wC]
    exact to_sp (to_tok (tok_word (by decide +kernel))) (to_wrap _ (text_words h))
  | .jn o cs, h => by
    rw [okC] at h
    rw [textC, wC]
    refine to_join (texts_words o h.2) ?_
    match cs, h.1 with
    | c :: cs, _ =>
      rw [textsC]
      simp
theorem texts_words (o : Bool) : ∀ {cs : List Cd}, oksC cs → Texts (textsC o cs) (wsC o cs)
  | [], _ => by
    rw [textsC, wsC]
    exact .nil
  | c :: cs, h => by
    rw [oksC] at h
    rw [textsC, wsC]
    exact .cons (to_wrap _ (text_words h.1)) (texts_words o h.2)
end
/-- what is read of a condition's text -/
theorem read_text {c : Cd} (h : okC c) : wordsW (textC c) = some (wC c) ∧ readC (wC c) = if dC c ≤ 8 then some c else none := ⟨(text_words h).words, read_dressed (dr_plain h)⟩
end W9
namespace W10
open PySem PySem.Spec PyProof.Rows L2 Wy WM W3 W4 W5 W7 W8 W9
/-! ### joined texts -/
theorem joinS_tl (o : Bool) : ∀ zs : List Str, tl (joinS o zs) = TL.joinL (tl ((" " : Str) ++ jw o ++ (" " : Str))) (zs.map tl)
  | [] => rfl
  | [_] => rfl
  | x :: y :: r => by
    have ih := joinS_tl o (y :: r)
    show tl (x ++ (" " : Str) ++ jw o ++ (" " : Str) ++ joinS o (y :: r)) = tl x ++ (tl ((" " : Str) ++ jw o ++ (" " : Str)) ++ TL.joinL _ ((y :: r).map tl))
    rw [← ih, tl_app, tl_app, tl_app, tl_app, tl_app, tl_app]
    simp
theorem join_joinS (o : Bool) (zs : List Str) : Txt.join ((" " : Str) ++ jw o ++ (" " : Str)) zs = joinS o zs := by
  refine str_ext ?_
  rw [TL.join_eq]
  have h := TL.tl_join ((" " : Str) ++ jw o ++ (" " : Str)) zs
  exact h.trans (joinS_tl o zs).symm
/-! ### how long the texts are -/
mutual
def wt : Cd → Nat
  | .cmp _ _ _ => 130
  | .no c => wt c + 6
  | .jn _ cs => wts cs
def wts : List Cd → Nat
  | [] => 0
  | c :: cs => wt c + 7 + wts cs
end
theorem wrap_len (b : Bool) (z : Str) : (wrap b z).length ≤ z.length + 2 := by
  cases b with
  | false => exact Nat.le_add_right _ _
  | true =>
    show (("(" : Str) ++ z ++ (")" : Str)).length ≤ _
    rw [app_len, app_len]
    show 1 + z.length + 1 ≤ _
    omega
theorem sig_len {s : Str} (h : s ∈ SIG) : s.length ≤ 2 := by
  have : ∀ s ∈ SIG, s.length ≤ 2 := by decide +kernel
  exact this s h
theorem jw_len (o : Bool) : (jw o).length ≤ 3 := by cases o <;> decide
theorem joinS_len (o : Bool) : ∀ zs : List Str, (joinS o zs).length ≤ (zs.map (·.length)).sum + 5 * zs.length
  | [] => by simp [joinS, Str.empty, Str.length]
  | [x] => by simp [joinS]
  | x :: y :: r => by
    have ih := joinS_len o (y :: r)
    have j := jw_len o
    show (x ++ (" " : Str) ++ jw o ++ (" " : Str) ++ joinS o (y :: r)).length ≤ (x.length + ((y :: r).map (·.length)).sum) + 5 * ((y :: r).length + 1)
    rw [app_len, app_len, app_len, app_len]
    show x.length + 1 + (jw o).length + 1 + (joinS o (y :: r)).length ≤ _
    omega
theorem texts_count (o : Bool) : ∀ cs : List Cd, (textsC o cs).length = cs.length
  | [] => by rw [textsC]; rfl
  | c :: cs => by rw [textsC, List.length_cons, List.length_cons, texts_count o cs]
mutual
theorem text_len : ∀ {c : Cd}, okC c → (textC c).length ≤ wt c
  | .cmp s l r, h => by
    rw [okC] at h
    have h1 := good_len h.2.1
    have h2 := good_len h.2.2
    have h3 := sig_len h.1
    rw [textC, wt, app_len, app_len, app_len, app_len]
    show (textE l).length + 1 + s.length + 1 + (textE r).length ≤ 130
    omega
  | .no c, h => by
    rw [okC] at h
    have ih := text_len h
    have w := wrap_len (needB false c) (textC c)
    rw [textC, wt, app_len, app_len]
    show 3 + 1 + _ ≤ _
    omega
  | .jn o cs, h => by
    rw [okC] at h
    have ih := texts_len o h.2
    have j := joinS_len o (textsC o cs)
    rw [textC, wt]
    rw [texts_count] at j
    omega
theorem texts_len (o : Bool) : ∀ {cs : List Cd}, oksC cs → ((textsC o cs).map (·.length)).sum + 5 * cs.length ≤ wts cs
  | [], _ => by
    rw [textsC, wts]
    exact Nat.le_refl _
  | c :: cs, h => by
    rw [oksC] at h
    have i1 := text_len h.1
    have i2 := texts_len o h.2
    have w := wrap_len (needB o c) (textC c)
    rw [textsC, wts, List.map_cons, List.sum_cons, List.length_cons]
    omega
end
/-! ### how deep a condition may be -/
mutual
def dp : Nat → Cd → Prop
  | _, .cmp _ _ _ => True
  | 0, .no _ => False
  | n + 1, .no c => dp n c
  | 0, .jn _ _ => False
  | n + 1, .jn _ cs => dps n cs
def dps : Nat → List Cd → Prop
  | _, [] => True
  | n, c :: cs => dp n c ∧ dps n cs
end
theorem dp_no {n : Nat} {c : Cd} (h : dp n (.no c)) : ∃ m, n = m + 1 ∧ dp m c := by
  cases n with
  | zero => simp only [dp] at h
  | succ m =>
    simp only [dp] at h
    exact ⟨m, rfl, h⟩
theorem dp_jn {n : Nat} {o : Bool} {cs : List Cd} (h : dp n (.jn o cs)) : ∃ m, n = m + 1 ∧ dps m cs := by
  cases n with
  | zero => simp only [dp] at h
  | succ m =>
    simp only [dp] at h
    exact ⟨m, rfl, h⟩
theorem dps_get {n : Nat} : ∀ {cs : List Cd} {i : Nat} {c : Cd}, dps n cs → cs[i]? = some c → dp n c
  | [], _, _, _, h => by cases h
  | c :: cs, 0, _, g, h => by
    cases h
    rw [dps] at g
    exact g.1
  | c :: cs, i + 1, _, g, h => by
    have h : cs[i]? = some _ := h
    rw [dps] at g
    exact dps_get g.2 h
theorem oks_get : ∀ {cs : List Cd} {i : Nat} {c : Cd}, oksC cs → cs[i]? = some c → okC c
  | [], _, _, _, h => by cases h
  | c :: cs, 0, _, g, h => by
    cases h
    rw [oksC] at g
    exact g.1
  | c :: cs, i + 1, _, g, h => by
    have h : cs[i]? = some _ := h
    rw [oksC] at g
    exact oks_get g.2 h
theorem wts_get : ∀ {cs : List Cd} {i : Nat} {c : Cd}, cs[i]? = some c → wt c + 7 ≤ wts cs
  | [], _, _, h => by cases h
  | c :: cs, 0, _, h => by
    cases h
    rw [wts]
    omega
  | c :: cs, i + 1, _, h => by
    have h : cs[i]? = some _ := h
    have ih := wts_get h
    rw [wts]
    omega
theorem ds_get : ∀ {cs : List Cd} {i : Nat} {c : Cd}, cs[i]? = some c → (Cd.ds cs)[i]? = some c.d
  | [], _, _, h => by cases h
  | c :: cs, 0, _, h => by
    cases h
    rfl
  | c :: cs, i + 1, _, h => by
    have h : cs[i]? = some _ := h
    exact ds_get (cs := cs) (i := i) h
theorem texts_get (o : Bool) : ∀ {cs : List Cd} {i : Nat} {c : Cd}, cs[i]? = some c → (textsC o cs).take (i + 1) = (textsC o cs).take i ++ [wrap (needB o c) (textC c)]
  | [], _, _, h => by cases h
  | c :: cs, 0, _, h => by
    cases h
    rw [textsC]
    rfl
  | c :: cs, i + 1, _, h => by
    have h : cs[i]? = some _ := h
    have ih := texts_get o h
    rw [textsC, List.take_succ_cons, ih, List.take_succ_cons]
    rfl
/-- the parts of a condition -/
theorem cd_cmp {H : Hp} {v : V} {s : Str} {l r : Ex} (h : Tp H v (Cd.cmp s l r).d) : ∃ a u x, v = .ref a ∧ H a = some (.tup [.str "cmp", .str s, u, x]) ∧ Tp H u l.d ∧ Tp H x r.d := by
  rw [Cd.d] at h
  cases h with
  | tup e r =>
    cases r with | cons h1 r => cases r with | cons h2 r => cases r with | cons h3 r => cases r with | cons h4 r =>
      cases r
      cases h1
      cases h2
      exact ⟨_, _, _, rfl, e, h3, h4⟩
theorem cd_no {H : Hp} {v : V} {c : Cd} (h : Tp H v (Cd.no c).d) : ∃ a u, v = .ref a ∧ H a = some (.tup [.str "not", u]) ∧ Tp H u c.d := by
  rw [Cd.d] at h
  cases h with
  | tup e r =>
    cases r with | cons h1 r => cases r with | cons h2 r =>
      cases r
      cases h1
      exact ⟨_, _, rfl, e, h2⟩
theorem cd_jn {H : Hp} {v : V} {o : Bool} {cs : List Cd} (h : Tp H v (Cd.jn o cs).d) : ∃ a b us, v = .ref a ∧ H a = some (.tup [.str (jw o), .ref b]) ∧ H b = some (.tup us) ∧ TpAll H us (Cd.ds cs) := by
  rw [Cd.d] at h
  cases h with
  | tup e r =>
    cases r with | cons h1 r => cases r with | cons h2 r =>
      cases r
      cases h1
      cases h2 with
      | tup e2 r2 => exact ⟨_, _, _, rfl, e, e2, r2⟩
theorem part_at {H : Hp} {us : List V} {cs : List Cd} {i : Nat} {x : V} (t : TpAll H us (Cd.ds cs)) (hx : us[i]? = some x) : ∃ c, cs[i]? = some c ∧ Tp H x c.d := by
  have hl := t.length
  rw [ds_len] at hl
  have hi := (List.getElem?_eq_some_iff.mp hx).1
  have hc : cs[i]? = some cs[i] := List.getElem?_eq_getElem (by omega)
  obtain ⟨v, e, tv⟩ := t.get (ds_get hc)
  rw [hx] at e
  cases e
  exact ⟨_, hc, tv⟩
/-- what stands first in a condition -/
def kw : Cd → Str
  | .cmp _ _ _ => "cmp"
  | .no _ => "not"
  | .jn o _ => jw o
theorem cd_first {H : Hp} {v : V} {c : Cd} (h : Tp H v c.d) : ∃ a xs, v = .ref a ∧ H a = some (.tup xs) ∧ xs[0]? = some (.str (kw c)) := by
  cases c with
  | cmp s l r =>
    obtain ⟨a, u, x, e1, e2, _⟩ := cd_cmp h
    exact ⟨a, _, e1, e2, rfl⟩
  | no c =>
    obtain ⟨a, u, e1, e2, _⟩ := cd_no h
    exact ⟨a, _, e1, e2, rfl⟩
  | jn o cs =>
    obtain ⟨a, b, us, e1, e2, _⟩ := cd_jn h
    exact ⟨a, _, e1, e2, rfl⟩
theorem need_in (o : Bool) (c : Cd) : inV (.str (kw c)) ((if o then (["or"] : List Str) else ["and", "or"]).map V.str) = needB o c := by
  cases c with
  | cmp _ _ _ => cases o <;> (show inV (.str "cmp") _ = false; decide +kernel)
  | no _ => cases o <;> (show inV (.str "not") _ = false; decide +kernel)
  | jn o2 _ => cases o <;> cases o2 <;> (first | (show inV (.str "and") _ = true; decide +kernel) | (show inV (.str "or") _ = true; decide +kernel) | (show inV (.str "and") _ = false; decide +kernel))
section
variable {K : PySem.W.Frag} {σ : L2.St} {H : Hp} {Q : VK} {g : TG} {te : TE}
theorem c_tup {a : Addr} {xs : List V} {vs : List Nat} {tt : TT} (Pv : Addr → Nat → Hp → Prop) (h0 : ∀ D H1, H D = none → Same H H1 → H1 D = some (.lst []) → Pv D 0 H1) (hl : ∀ D i H1, i ≤ xs.length → H D = none → Pv D i H1 → SqT K H1 a xs)
    (hs : ∀ D i x H1, xs[i]? = some x → H D = none → Pv D i H1 → g x (wipe σ vs) H1 fun σ2 H2 => wipe σ2 vs = wipe σ vs ∧ tt σ2 H2 fun b H3 =>
      if b = true then te σ2 H3 fun y H4 => COut D y H4 (Pv D (i + 1)) else Pv D (i + 1) H3) (hd : ∀ D H1, H D = none → Pv D xs.length H1 → Q (.ref D) H1) :
    LoopC (Itt K a) g tt te vs σ H Q := fun D nD => lc_tup (Pv D) (h0 D _ nD (same_new nD) upd_same) (fun i H1 hi p => hl D i H1 hi nD p) (fun i x H1 hi p => hs D i x H1 hi nD p) fun H1 p => hd D H1 nD p
end
/-- a walk over a list or a tuple -/
def iSeq (K : PySem.W.Frag) (te : TE) : TI := fun σ H R => iList K te σ H R ∨ iTup K te σ H R
theorem pi_seq {X : Cx} {tg e : Expr} {te : TE} (h : PE X e te) : PI X tg e (iSeq X.K te) := ⟨fun pins s σ H R I q => q.elim (fun q => (pi_list h).run pins s σ H R I q) (fun q => (pi_tup h).run pins s σ H R I q)⟩
theorem w_sl {K : PySem.W.Frag} {te : TE} {σ : L2.St} {H : Hp} {R : It → Hp → Prop} (h : te σ H fun x H1 => KL K x H1 R) : iSeq K te σ H R := .inl h
theorem w_st {K : PySem.W.Frag} {te : TE} {σ : L2.St} {H : Hp} {R : It → Hp → Prop} (h : te σ H fun x H1 => KT K x H1 R) : iSeq K te σ H R := .inr h
end W10
namespace WD
open PySem PySem.Spec PyProof.Rows L2 Wy
theorem uu {a c : Nat} (h : a + 64 < c) : a + 1 < c := by omega
/-! ### dicts of texts -/
def rLnD : List V → Hp → VK → Prop := fun xs H Q => ∃ a kvs, xs = [.ref a] ∧ H a = some (.dK kvs) ∧ Q (.int (kvs.length : Nat)) H
theorem call_lenD {X : Cx} : CallR X (.builtin "len") rLnD := by
  intro pins s σ H xs us Q I r h
  obtain ⟨p, kvs, rfl, hk, q⟩ := h
  obtain ⟨u, eu, rx⟩ := vals1 r
  subst eu
  obtain rfl : u = Value.ref p := rx
  exact d_len I (.inl hk) fun t s' I' => ⟨.int (kvs.length : Nat), H, I', ⟨t, rfl⟩, q⟩
section
variable {K : PySem.W.Frag} {σ : L2.St} {H : Hp} {Q : VK} {td ty tv : TE} {D : Ends}
def KD (x y : V) (H : Hp) (Q : VK) : Prop := ∃ a v, x = .ref a ∧ DGet H a y (some v) ∧ Q v H
def KP (v x y : V) (σ : L2.St) (H : Hp) (N : L2.St → Hp → Prop) : Prop := ∃ a H4, x = .ref a ∧ DPut H a y v H4 ∧ N σ H4
theorem e_dnew (h : ∀ p H2, H p = none → Same H H2 → H2 p = some (.dK []) → Q (.ref p) H2) : tDNewK σ H Q := new_same h
theorem e_dget (h : td σ H fun x H1 => ty σ H1 fun y H2 => KD x y H2 Q) : tDGet td ty σ H Q := h
theorem k_d {a : Addr} {kvs : List (Key × V)} {n : Str} {v : V} (e : H a = some (.dK kvs)) (g : valV kvs (.inr n) = some v) (h : Q v H) : KD (.ref a) (.str n) H Q :=
  ⟨a, v, rfl, g ▸ DGet.k (k := .inr n) e, h⟩
theorem s_dput (h : tv σ H fun v H1 => td σ H1 fun x H2 => ty σ H2 fun y H3 => KP v x y σ H3 D.nx) : sDPut td ty tv D σ H := h
theorem k_p {a : Addr} {kvs : List (Key × V)} {n : Str} {v : V} {N : L2.St → Hp → Prop} (e : H a = some (.dK kvs)) (hl : kvs.length < sizeLine) (h : ∀ H2, Chg a H H2 → H2 a = some (.dK (putK kvs (.inr n) v)) → N σ H2) :
    KP v (.ref a) (.str n) σ H N := ⟨a, _, rfl, DPut.k (k := .inr n) e hl, h _ chg_upd upd_same⟩
theorem b_lenD {a : Addr} {kvs : List (Key × V)} (e : H a = some (.dK kvs)) (h : Q (.int (kvs.length : Nat)) H) : rLnD [.ref a] H Q := ⟨a, kvs, rfl, e, h⟩
theorem b_lstD {a : Addr} {kvs : List (Key × V)} (e : H a = some (.dK kvs)) (h : ∀ p H2, H p = none → Same H H2 → H2 p = some (.lst (kvs.map fun kv => kV kv.1)) → Q (.ref p) H2) : rListD [.ref a] H Q := ⟨a, kvs, rfl, e, new_same h⟩
def rTup (K : PySem.W.Frag) : List V → Hp → VK → Prop := fun xs H Q => ∃ p ys, xs = [.ref p] ∧ ((SqL K H p ys ∧ ∀ l, H l = none → Q (.ref l) (upd H l (.tup ys))) ∨ (SqT K H p ys ∧ Q (.ref p) H))
theorem call_tup2 {X : Cx} : CallR X (.type "tuple") (rTup X.K) := call_tuple_of
theorem b_tup {a : Addr} {xs : List V} (hs : SqL K H a xs) (h : ∀ p H2, H p = none → Same H H2 → H2 p = some (.tup xs) → Q (.ref p) H2) : rTup K [.ref a] H Q := ⟨a, xs, rfl, .inl ⟨hs, new_same h⟩⟩
theorem m_idx {a : Addr} {ys : List V} {y : V} {j : Nat} {z : V} (hs : SqL K H a ys) (f1 : flatV y = true) (f2 : ys.all flatV = true) (g : ys[j]? = some z) (e : eqV z y = true)
    (no : ∀ (m : Nat) (z' : V), m < j → ys[m]? = some z' → eqV z' y = false) (h : Q (.int (j : Nat)) H) : rIndex K (.ref a) [y] H Q := ⟨a, ys, y, j, z, rfl, rfl, hs, f1, f2, g, e, no, h⟩
end
/-- the names with their values, as far as there are values -/
def kv (ns : List Str) (vs : List V) : List (Key × V) := (ns.zip vs).map fun p => (.inr p.1, p.2)
theorem kv_len {ns : List Str} {vs : List V} (h : vs.length ≤ ns.length) : (kv ns vs).length = vs.length := by
  unfold kv
  rw [List.length_map, List.length_zip]
  omega
theorem kv_get : ∀ {ns : List Str} {vs : List V} {j : Nat} {n : Str} {v : V}, ns.Nodup → ns[j]? = some n → vs[j]? = some v → valV (kv ns vs) (.inr n) = some v
  | [], _, _, _, _, _, h, _ => by cases h
  | _ :: _, [], _, _, _, _, _, h => by cases h
  | m :: ns, u :: vs, 0, n, v, _, h1, h2 => by
    cases h1
    cases h2
    exact valV_pos (p := (Sum.inr m, u)) rfl
  | m :: ns, u :: vs, j + 1, n, v, hd, h1, h2 => by
    have h1 : ns[j]? = some n := h1
    have h2 : vs[j]? = some v := h2
    have hd := List.nodup_cons.mp hd
    have ne : ¬ (Sum.inr m : Key) = Sum.inr n := fun e => hd.1 (by
      have e2 : m = n := Sum.inr.inj e
      rw [e2]
      exact List.mem_of_getElem? h1)
    exact (valV_neg (p := (Sum.inr m, u)) ne).trans (kv_get hd.2 h1 h2)
theorem zip_fst : ∀ (ns : List Str) (vs : List V), (ns.zip vs).map Prod.fst = ns.take vs.length
  | [], _ => by simp
  | _ :: _, [] => rfl
  | n :: ns, _ :: vs => congrArg (n :: ·) (zip_fst ns vs)
theorem zip_cut : ∀ (ns : List Str) (vs : List V), ns.zip vs = (ns.take vs.length).zip vs
  | [], _ => by simp
  | _ :: _, [] => rfl
  | n :: ns, v :: vs => congrArg ((n, v) :: ·) (zip_cut ns vs)
theorem kv_any {ns : List Str} {vs : List V} {n : Str} : ((kv ns vs).any fun p => decide (p.1 = (.inr n : Key))) = true ↔ n ∈ (ns.take vs.length) := by
  unfold kv
  rw [List.any_map, List.any_eq_true]
  constructor
  · rintro ⟨⟨a, b⟩, hm, h⟩
    have h : (Sum.inr a : Key) = Sum.inr n := of_decide_eq_true h
    have e : a = n := Sum.inr.inj h
    subst e
    have : a ∈ (ns.zip vs).map Prod.fst := List.mem_map.mpr ⟨_, hm, rfl⟩
    rw [zip_fst] at this
    exact this
  · intro h
    have : n ∈ (ns.zip vs).map Prod.fst := by
      rw [zip_fst]
      exact h
    obtain ⟨⟨a, b⟩, hm, e⟩ := List.mem_map.mp this
    exact ⟨(a, b), hm, decide_eq_true (by rw [← e])⟩
theorem kv_new {ns : List Str} {vs : List V} {n : Str} {v : V} (hd : ns.Nodup) (h : ns[vs.length]? = some n) : putK (kv ns vs) (.inr n) v = kv ns (vs ++ [v]) := by
  have no : n ∉ ns.take vs.length := by
    intro hm
    obtain ⟨i, hi, e⟩ := List.getElem_of_mem hm
    obtain ⟨hl, e2⟩ := List.getElem?_eq_some_iff.mp h
    rw [List.length_take] at hi
    rw [List.getElem_take] at e
    have := (List.getElem_inj hd).mp (e.trans e2.symm)
    omega
  unfold putK
  rw [if_neg (fun e => no (kv_any.mp e))]
  unfold kv
  obtain ⟨hl, e2⟩ := List.getElem?_eq_some_iff.mp h
  have e3 : ns = ns.take vs.length ++ n :: ns.drop (vs.length + 1) := by
    rw [← e2, List.getElem_cons_drop, List.take_append_drop]
  have e4 : ns.zip vs = (ns.take vs.length).zip vs := zip_cut ns vs
  have l1 : (ns.take vs.length).length = vs.length := by rw [List.length_take]; omega
  have e5 : ns.zip (vs ++ [v]) = (ns.take vs.length).zip vs ++ [(n, v)] := by
    conv => lhs; rw [e3]
    rw [List.zip_append l1]
    simp
  rw [e4, e5, List.map_append]
  rfl
theorem kv_set : ∀ {ns : List Str} {vs : List V} {j : Nat} {n : Str} {v : V}, ns.Nodup → ns[j]? = some n → j < vs.length → (kv ns vs).map (fun p => if p.1 = (.inr n : Key) then (p.1, v) else p) = kv ns (vs.set j v)
  | [], _, _, _, _, _, h, _ => by cases h
  | _ :: _, [], _, _, _, _, _, h => absurd h (Nat.not_lt_zero _)
  | m :: ns, u :: vs, 0, n, v, hd, h1, h2 => by
    cases h1
    have hd := List.nodup_cons.mp hd
    show (if (Sum.inr m : Key) = Sum.inr m then _ else _) :: _ = (_ :: _ : List (Key × V))
    rw [if_pos rfl]
    refine congrArg (_ :: ·) ?_
    refine (List.map_congr_left fun p hp => ?_).trans (List.map_id _)
    obtain ⟨⟨a, b⟩, hm, e⟩ := List.mem_map.mp hp
    rw [if_neg ?_]
    · rfl
    · rw [← e]
      intro e2
      exact hd.1 (Sum.inr.inj e2 ▸ (List.of_mem_zip hm).1)
  | m :: ns, u :: vs, j + 1, n, v, hd, h1, h2 => by
    have h1 : ns[j]? = some n := h1
    have hd := List.nodup_cons.mp hd
    have ne : ¬ (Sum.inr m : Key) = Sum.inr n := fun e => hd.1 (by
      have e2 : m = n := Sum.inr.inj e
      rw [e2]
      exact List.mem_of_getElem? h1)
    show (if (Sum.inr m : Key) = Sum.inr n then _ else _) :: _ = (_ :: _ : List (Key × V))
    rw [if_neg ne]
    exact congrArg (_ :: ·) (kv_set hd.2 h1 (Nat.lt_of_succ_lt_succ h2))
theorem kv_put {ns : List Str} {vs : List V} {j : Nat} {n : Str} {v : V} (hd : ns.Nodup) (h : ns[j]? = some n) (hj : j < vs.length) : putK (kv ns vs) (.inr n) v = kv ns (vs.set j v) := by
  obtain ⟨hl, e2⟩ := List.getElem?_eq_some_iff.mp h
  have hm : n ∈ ns.take vs.length := by
    rw [← e2]
    exact List.mem_take_iff_getElem.mpr ⟨j, by omega, rfl⟩
  unfold putK
  rw [if_pos (kv_any.mpr hm)]
  exact kv_set hd h hj
theorem kv_keys {ns : List Str} {vs : List V} (h : vs.length = ns.length) : (kv ns vs).map (fun p => kV p.1) = ns.map V.str := by
  unfold kv
  rw [List.map_map]
  have : ((fun p : Key × V => kV p.1) ∘ fun p : Str × V => ((.inr p.1 : Key), p.2)) = V.str ∘ Prod.fst := rfl
  rw [this, ← List.map_map, List.map_fst_zip (by omega)]
/-! ### the questions and their answers -/
inductive X9 where
  | num (n : Int)
  | var (k : Nat) (p : Int)
  | item (j : Nat) (i : X9) (p : Int)
abbrev nm (ns : List Str) (k : Nat) : Str := ns.getD k ""
def X9.d (ns : List Str) : X9 → PyData
  | .num n => .tuple [.str "num", .int n]
  | .var k p => .tuple [.str "var", .str (nm ns k), .int p]
  | .item j i p => .tuple [.str "item", .str (nm ns (4 + j)), i.d ns, .int p]
def X9.plain : X9 → Prop
  | .num _ => True
  | .var k _ => k < 4
  | .item _ _ _ => False
def X9.good : X9 → Prop
  | .num _ => True
  | .var k _ => k < 4
  | .item j i _ => j < 2 ∧ i.plain
theorem X9.plain.good {e : X9} (h : e.plain) : e.good := by
  cases e with
  | num _ => exact True.intro
  | var _ _ => exact h
  | item _ _ _ => exact h.elim
def X9.dep : X9 → Nat
  | .item _ _ _ => 1
  | _ => 0
theorem X9.plain.dep {e : X9} (h : e.plain) : e.dep = 0 := by
  cases e with
  | num _ => rfl
  | var _ _ => rfl
  | item _ _ _ => exact h.elim
theorem X9.dep_le (e : X9) : e.dep < 2 := by
  cases e <;> simp [X9.dep]
def X9.ev (is : List Int) (ls : List (List Int)) : X9 → Option Int
  | .num n => some n
  | .var k p => some (is.getD k 0 + p)
  | .item j i p => match i.ev is ls with
    | none => none
    | some a => if 0 ≤ a ∧ a < (ls.getD j []).length then some ((ls.getD j []).getD a.toNat 0 + p) else none
def oI : Option Int → V
  | none => .non
  | some i => .int i
def oB : Option Bool → V
  | none => .non
  | some b => .bl b
theorem X9.plain.ev {e : X9} (h : e.plain) (is : List Int) (ls : List (List Int)) : ∃ i, e.ev is ls = some i := by
  cases e with
  | num n => exact ⟨n, rfl⟩
  | var k p => exact ⟨_, rfl⟩
  | item _ _ _ => exact h.elim
abbrev SG : List Str := ["<", "<=", ">", ">=", "==", "!="]
def cmpB : Nat → Int → Int → Bool
  | 0, a, b => decide (a < b)
  | 1, a, b => decide (a ≤ b)
  | 2, a, b => decide (a > b)
  | 3, a, b => decide (a ≥ b)
  | 4, a, b => decide (a = b)
  | _, a, b => !decide (a = b)
inductive Cn where
  | cmp (k : Nat) (l r : X9)
  | no (c : Cn)
  | jn (o : Bool) (cs : List Cn)
abbrev jw (o : Bool) : Str := if o then "or" else "and"
mutual
def Cn.d (ns : List Str) : Cn → PyData
  | .cmp k l r => .tuple [.str "cmp", .str (SG.getD k ""), l.d ns, r.d ns]
  | .no c => .tuple [.str "not", c.d ns]
  | .jn o cs => .tuple [.str (jw o), .tuple (Cn.ds ns cs)]
def Cn.ds (ns : List Str) : List Cn → List PyData
  | [] => []
  | c :: cs => c.d ns :: Cn.ds ns cs
end
mutual
def Cn.ok : Nat → Cn → Prop
  | _, .cmp k l r => k < 6 ∧ l.good ∧ r.good
  | 0, .no _ => False
  | n + 1, .no c => c.ok n
  | 0, .jn _ _ => False
  | n + 1, .jn _ cs => Cn.oks n cs
def Cn.oks : Nat → List Cn → Prop
  | _, [] => True
  | n, c :: cs => c.ok n ∧ Cn.oks n cs
end
def cmpO (k : Nat) : Option Int → Option Int → Option Bool
  | some a, some b => some (cmpB k a b)
  | _, _ => none
mutual
def Cn.ev (is : List Int) (ls : List (List Int)) : Cn → Option Bool
  | .cmp k l r => cmpO k (l.ev is ls) (r.ev is ls)
  | .no c => (c.ev is ls).map fun b => !b
  | .jn o cs => Cn.evs is ls o cs
def Cn.evs (is : List Int) (ls : List (List Int)) (o : Bool) : List Cn → Option Bool
  | [] => some (!o)
  | c :: cs => match c.ev is ls with
    | none => none
    | some b => if b = o then some b else Cn.evs is ls o cs
end
theorem Cn.ds_get {ns : List Str} : ∀ {cs : List Cn} {i : Nat} {c : Cn}, cs[i]? = some c → (Cn.ds ns cs)[i]? = some (c.d ns)
  | [], _, _, h => by cases h
  | c :: cs, 0, _, h => by
    cases h
    rfl
  | c :: cs, i + 1, _, h => by
    have h : cs[i]? = some _ := h
    exact Cn.ds_get (cs := cs) (i := i) h
theorem Cn.ds_len {ns : List Str} : ∀ {cs : List Cn}, (Cn.ds ns cs).length = cs.length
  | [] => rfl
  | c :: cs => congrArg (· + 1) Cn.ds_len
theorem Cn.ds_snoc {ns : List Str} {c : Cn} : ∀ {cs : List Cn}, Cn.ds ns (cs ++ [c]) = Cn.ds ns cs ++ [c.d ns]
  | [] => rfl
  | _ :: _ => congrArg (_ :: ·) Cn.ds_snoc
theorem Cn.oks_get {n : Nat} : ∀ {cs : List Cn} {i : Nat} {c : Cn}, Cn.oks n cs → cs[i]? = some c → c.ok n
  | [], _, _, _, h => by cases h
  | c :: cs, 0, _, g, h => by
    cases h
    exact g.1
  | c :: cs, i + 1, _, g, h => by
    have h : cs[i]? = some _ := h
    exact Cn.oks_get g.2 h
theorem Cn.oks_snoc {n : Nat} {c : Cn} : ∀ {cs : List Cn}, Cn.oks n cs → c.ok n → Cn.oks n (cs ++ [c])
  | [], _, h => ⟨h, True.intro⟩
  | _ :: _, g, h => ⟨g.1, Cn.oks_snoc g.2 h⟩
theorem Cn.evs_drop {is : List Int} {ls : List (List Int)} {o : Bool} {cs : List Cn} {i : Nat} {c : Cn} (h : cs[i]? = some c) :
    Cn.evs is ls o (cs.drop i) = match c.ev is ls with | none => none | some b => if b = o then some b else Cn.evs is ls o (cs.drop (i + 1)) := by
  obtain ⟨hl, e⟩ := List.getElem?_eq_some_iff.mp h
  rw [List.drop_eq_getElem_cons hl, e]
  rfl
/-! ### the parts of the data -/
theorem tp4 {H : Hp} {v : V} {d1 d2 d3 d4 : PyData} (h : Tp H v (.tuple [d1, d2, d3, d4])) : ∃ a v1 v2 v3 v4, v = .ref a ∧ H a = some (.tup [v1, v2, v3, v4]) ∧ Tp H v1 d1 ∧ Tp H v2 d2 ∧ Tp H v3 d3 ∧ Tp H v4 d4 := by
  cases h with
  | tup e r =>
    cases r with | cons h1 r => cases r with | cons h2 r => cases r with | cons h3 r => cases r with | cons h4 r =>
      cases r
      exact ⟨_, _, _, _, _, rfl, e, h1, h2, h3, h4⟩
theorem tp3 {H : Hp} {v : V} {d1 d2 d3 : PyData} (h : Tp H v (.tuple [d1, d2, d3])) : ∃ a v1 v2 v3, v = .ref a ∧ H a = some (.tup [v1, v2, v3]) ∧ Tp H v1 d1 ∧ Tp H v2 d2 ∧ Tp H v3 d3 := by
  cases h with
  | tup e r =>
    cases r with | cons h1 r => cases r with | cons h2 r => cases r with | cons h3 r =>
      cases r
      exact ⟨_, _, _, _, rfl, e, h1, h2, h3⟩
theorem tp2 {H : Hp} {v : V} {d1 d2 : PyData} (h : Tp H v (.tuple [d1, d2])) : ∃ a v1 v2, v = .ref a ∧ H a = some (.tup [v1, v2]) ∧ Tp H v1 d1 ∧ Tp H v2 d2 := by
  cases h with
  | tup e r =>
    cases r with | cons h1 r => cases r with | cons h2 r =>
      cases r
      exact ⟨_, _, _, rfl, e, h1, h2⟩
theorem tpL {H : Hp} {v : V} {ds : List PyData} (h : Tp H v (.tuple ds)) : ∃ a vs, v = .ref a ∧ H a = some (.tup vs) ∧ TpAll H vs ds := by
  cases h with
  | tup e r => exact ⟨_, _, rfl, e, r⟩
theorem tp_str {H : Hp} {v : V} {x : Str} (h : Tp H v (.str x)) : v = .str x := by
  cases h
  rfl
theorem tp_int {H : Hp} {v : V} {x : Int} (h : Tp H v (.int x)) : v = .int x := by
  cases h
  rfl
theorem tpSnoc {H : Hp} {v : V} {d : PyData} : ∀ {vs : List V} {ds : List PyData}, TpAll H vs ds → Tp H v d → TpAll H (vs ++ [v]) (ds ++ [d])
  | _, _, .nil, h => .cons h .nil
  | _, _, .cons h1 h2, h => .cons h1 (tpSnoc h2 h)
/-! ### the variables -/
def CellAt (H : Hp) (is : List Int) (ls : List (List Int)) (j : Nat) (v : V) : Prop :=
  (∃ x, is[j]? = some x ∧ v = .int x) ∨ ∃ a xs, 4 ≤ j ∧ ls[j - 4]? = some xs ∧ v = .ref a ∧ H a = some (.lst (xs.map V.int))
theorem CellAt.same {H H' : Hp} {is : List Int} {ls : List (List Int)} {j : Nat} {v : V} (s : Same H H') (c : CellAt H is ls j v) : CellAt H' is ls j v := by
  rcases c with c | ⟨a, xs, h1, h2, h3, h4⟩
  · exact .inl c
  · exact .inr ⟨a, xs, h1, h2, h3, s _ _ h4⟩
def EnvAt (H : Hp) (p : Addr) (ns : List Str) (is : List Int) (ls : List (List Int)) : Prop :=
  is.length = 4 ∧ ls.length = 2 ∧ ns.length = 6 ∧ ns.Nodup ∧ ∃ vs : List V, vs.length = 6 ∧ H p = some (.dK (kv ns vs)) ∧ ∀ j v, vs[j]? = some v → CellAt H is ls j v
theorem EnvAt.same {H H' : Hp} {p : Addr} {ns : List Str} {is : List Int} {ls : List (List Int)} (s : Same H H') (e : EnvAt H p ns is ls) : EnvAt H' p ns is ls := by
  obtain ⟨h1, h2, h3, h4, vs, h5, h6, h7⟩ := e
  exact ⟨h1, h2, h3, h4, vs, h5, s _ _ h6, fun j v g => (h7 j v g).same s⟩
theorem nm_at {ns : List Str} {k : Nat} (h : k < ns.length) : ns[k]? = some (nm ns k) := by
  unfold nm
  rw [List.getD_eq_getElem?_getD, List.getElem?_eq_getElem h]
  rfl
/-- a number out of the variables -/
theorem EnvAt.int {H : Hp} {p : Addr} {ns : List Str} {is : List Int} {ls : List (List Int)} (e : EnvAt H p ns is ls) {k : Nat} (hk : k < 4) : ∃ kvs, H p = some (.dK kvs) ∧ valV kvs (.inr (nm ns k)) = some (.int (is.getD k 0)) := by
  obtain ⟨h1, h2, h3, h4, vs, h5, h6, h7⟩ := e
  have g : vs[k]? = some vs[k] := List.getElem?_eq_getElem (by omega)
  refine ⟨_, h6, ?_⟩
  have e := kv_get h4 (nm_at (by omega)) g
  rw [e]
  rcases h7 k _ g with ⟨x, c1, c2⟩ | ⟨a, xs, c1, _⟩
  · rw [c2, List.getD_eq_getElem?_getD, c1]
    rfl
  · omega
theorem EnvAt.lst {H : Hp} {p : Addr} {ns : List Str} {is : List Int} {ls : List (List Int)} (e : EnvAt H p ns is ls) {j : Nat} (hj : j < 2) :
    ∃ kvs a, H p = some (.dK kvs) ∧ valV kvs (.inr (nm ns (4 + j))) = some (.ref a) ∧ H a = some (.lst ((ls.getD j []).map V.int)) := by
  obtain ⟨h1, h2, h3, h4, vs, h5, h6, h7⟩ := e
  have g : vs[4 + j]? = some vs[4 + j] := List.getElem?_eq_getElem (by omega)
  have e := kv_get h4 (nm_at (by omega)) g
  rcases h7 _ _ g with ⟨x, c1, c2⟩ | ⟨a, xs, c1, c2, c3, c4⟩
  · have := (List.getElem?_eq_some_iff.mp c1).1
    omega
  · refine ⟨_, a, h6, by rw [e, c3], ?_⟩
    have e2 : ls.getD j [] = xs := by
      rw [List.getD_eq_getElem?_getD]
      rw [show 4 + j - 4 = j by omega] at c2
      rw [c2]
      rfl
    rw [e2]
    exact c4
/-! ### the names -/
abbrev PADS : List Str := ["", "u", "zzzzzzzzzzz", "uz"]
def let9 (k : Nat) : Str := ⟨#[("abcdxy" : Str).cps.toList.getD k 0]⟩
def namesOf (k : Nat) : List Str := (PADS.map fun p => let9 k ++ p) ++ PADS.map fun p => p ++ let9 k
theorem names_apart : ∀ i, i < 6 → ∀ j, j < 6 → i ≠ j → ∀ x ∈ namesOf i, ∀ y ∈ namesOf j, x ≠ y := by decide +kernel
def NamesOk (ns : List Str) : Prop := ∀ i n, ns[i]? = some n → n ∈ namesOf i
theorem names_nodup {ns : List Str} (h : NamesOk ns) (hl : ns.length ≤ 6) : ns.Nodup := by
  rw [List.nodup_iff_pairwise_ne, List.pairwise_iff_getElem]
  intro i j hi hj lt
  exact names_apart i (by omega) j (by omega) (by omega) _ (h i _ (List.getElem?_eq_getElem hi)) _ (h j _ (List.getElem?_eq_getElem hj))
end WD
/-! WN: more rules and steps. -/
namespace WN
open PySem PySem.Spec PyProof.Rows L2 Wy
theorem sm {H H' : Hp} {a : Addr} {o : HO} (s : Same H H') (h : H a = some o) : H' a = some o := s _ _ h
theorem cm {l : Addr} {H H' : Hp} {a : Addr} {o : HO} (c : Chg l H H') (n : a ≠ l) (h : H a = some o) : H' a = some o := c.at h n
theorem ne_new {H : Hp} {a l : Addr} {o : HO} (n : H l = none) (h : H a = some o) : a ≠ l := ne_of_none h n
theorem iteTT {b : Bool} {A B : Prop} (e : b = true) (h : A) : if b = true then A else B := by
  rw [if_pos e]
  exact h
theorem iteFF {b : Bool} {A B : Prop} (e : b = false) (h : B) : if b = true then A else B := by
  rw [if_neg (by rw [e]; exact Bool.false_ne_true)]
  exact h
theorem iteB {b : Bool} {A B : Prop} (h1 : b = true → A) (h2 : b = false → B) : if b = true then A else B := by
  cases b with
  | true => exact iteTT rfl (h1 rfl)
  | false => exact iteFF rfl (h2 rfl)
/-- a decided question -/
theorem iteD {p : Prop} [Decidable p] {A B : Prop} (h1 : p → A) (h2 : ¬ p → B) : if decide p = true then A else B := ite2 (fun e => h1 (of_decide_eq_true e)) fun e => h2 fun x => e (decide_eq_true x)
theorem iteND {p : Prop} [Decidable p] {A B : Prop} (h1 : ¬ p → A) (h2 : p → B) : if (!decide p) = true then A else B := by
  by_cases h : p
  · exact iteFF (by rw [decide_eq_true h]; rfl) (h2 h)
  · exact iteTT (by rw [decide_eq_false h]; rfl) (h1 h)
theorem nRN (a : Addr) : decide (V.ref a = V.non) = false := decide_eq_false (fun e => nomatch e)
theorem nIN (a : Int) : decide (V.int a = V.non) = false := decide_eq_false (fun e => nomatch e)
theorem nSN (a : Str) : decide (V.str a = V.non) = false := decide_eq_false (fun e => nomatch e)
theorem nBN (a : Bool) : decide (V.bl a = V.non) = false := decide_eq_false (fun e => nomatch e)
theorem nNRN (a : Addr) : (!decide (V.ref a = V.non)) = true := by rw [nRN]; rfl
theorem nNIN (a : Int) : (!decide (V.int a = V.non)) = true := by rw [nIN]; rfl
theorem nNSN (a : Str) : (!decide (V.str a = V.non)) = true := by rw [nSN]; rfl
theorem nNBN (a : Bool) : (!decide (V.bl a = V.non)) = true := by rw [nBN]; rfl
theorem dI (a b : Int) : decide (V.int a = V.int b) = decide (a = b) := by
  by_cases h : a = b
  · subst h
    rw [decide_eq_true rfl, decide_eq_true rfl]
  · rw [decide_eq_false h, decide_eq_false (fun e => h (V.int.inj e))]
theorem iteI {i j : Int} {A B : Prop} (h1 : i = j → A) (h2 : ¬ i = j → B) : if decide (V.int i = V.int j) = true then A else B := by
  rw [dI]
  exact iteD h1 h2
theorem iteNI {i j : Int} {A B : Prop} (h1 : ¬ i = j → A) (h2 : i = j → B) : if (!decide (V.int i = V.int j)) = true then A else B := by
  rw [dI]
  exact iteND h1 h2
theorem free_of {H H' : Hp} {a : Addr} (n : H' a = none) (s : Same H H') : H a = none := s.free n
theorem dB (a b : Bool) : decide (V.bl a = V.bl b) = decide (a = b) := by cases a <;> cases b <;> rfl
section
variable {X : Cx}
def rAll2 (K : PySem.W.Frag) : List V → Hp → VK → Prop := rAll K
theorem call_all2 (hc : X.calm = true) : CallR X (.builtin "all") (rAll2 X.K) := cr_all hc
def rSum2 (K : PySem.W.Frag) : List V → Hp → VK → Prop := rSum K
theorem call_sum2 (hc : X.calm = true) : CallR X (.builtin "sum") (rSum2 X.K) := cr_sum hc
def rMx2 (_ : PySem.W.Frag) : List V → Hp → VK → Prop := fun xs H Q => ∃ i j, xs = [.int i, .int j] ∧ Q (.int (if j > i then j else i)) H
theorem call_mx2 (hc : X.calm = true) : CallR X (.builtin "max") (rMx2 X.K) := call_max2 hc
def rMn2 (_ : PySem.W.Frag) : List V → Hp → VK → Prop := fun xs H Q => ∃ i j, xs = [.int i, .int j] ∧ Q (.int (if j < i then j else i)) H
theorem call_mn2 (hc : X.calm = true) : CallR X (.builtin "min") (rMn2 X.K) := call_min2 hc
def rIsi2 (K : PySem.W.Frag) : List V → Hp → VK → Prop := fun xs H Q => rIsi K xs H Q ∨ rIsiT K xs H Q
theorem call_isi2 : CallR X (.builtin "isinstance") (rIsi2 X.K) := Wy.CallR.or call_isi call_isiT
/-- a call of a built-in that wants calm -/
theorem pe_callC {id : String} {x : Str} {e : Expr} {es : List Expr} {p pos : Pos} {t : TA} {r : PySem.W.Frag → List V → Hp → VK → Prop} (hc : ∀ X : Cx, X.calm = true → CallR X (.builtin id) (r X.K)) (hg : Gl X x) (hm : X.mg x = none) (hv : bootBuiltins x = some (.builtin id)) (ha : PA X (e :: es) t) (hcalm : X.calm = true := by rfl) (hn : x ≠ "__name__" := by decide) (hdb : (x == ("__debug__" : Str)) = false := by decide)
    (he : starEach (e :: es) X.env = (false, eval e X.env) :: starEach es X.env := by rfl) (hpl : (backTo pos (starEach es X.env)).any (·.1) = false := by rfl) : PE X (.Call (.Name x p) (e :: es) [] pos) (tCB (r X.K) t) :=
  pe_callB (hc X hcalm) hg hm hv ha hn hdb he hpl
theorem cc_all (X : Cx) (h : X.calm = true) : CallR X (.builtin "all") (rAll2 X.K) := call_all2 h
theorem cc_sum (X : Cx) (h : X.calm = true) : CallR X (.builtin "sum") (rSum2 X.K) := call_sum2 h
theorem cc_max (X : Cx) (h : X.calm = true) : CallR X (.builtin "max") (rMx2 X.K) := call_mx2 h
theorem cc_min (X : Cx) (h : X.calm = true) : CallR X (.builtin "min") (rMn2 X.K) := call_mn2 h
/-- repr of data -/
def rRepr (K : PySem.W.Frag) : List V → Hp → VK → Prop := fun xs H Q => ∃ (a : Addr) (d : PyData), xs = [.ref a] ∧ Dp K H (.ref a) d ∧ d.showable = true ∧ d.hasDict = false ∧ d.depth ≤ 60 ∧ d.shown.length ≤ sizeLine ∧ Q (.str d.shown) H
end
section
variable {K : PySem.W.Frag} {H : Hp} {Q : VK} {v x y : V} {b : Bool}
theorem o_fdW {f : Int → Int → V} {i j : Int} (h1 : 0 < j) (h2 : j ≤ 10 ^ 90) (h : Q (f i j) H) : rI CDivW f (.int i) (.int j) H Q :=
  ⟨i, j, rfl, rfl, wide_div (b := 400) h1 (by
    have : (10 : Int) ^ 90 < 2 ^ 400 := by decide +kernel
    omega) (by decide) (by decide), h⟩
/-- a rest, its bounds alone -/
theorem o_modG {i j : Int} (h1 : 0 < j) (h : ∀ r : Int, 0 ≤ r → r < j → Q (.int r) H) : rI (fun _ j => 0 < j) (fun i j => .int (i % j)) (.int i) (.int j) H Q := o_mod h1 (h _ (Int.emod_nonneg _ (by omega)) (Int.emod_lt_of_pos _ h1))
theorem b_all {a : Addr} {bs : List Bool} (hs : SqL K H a (bs.map V.bl)) (h : Q (.bl (bs.all id)) H) : rAll2 K [.ref a] H Q := ⟨a, bs, rfl, hs, h⟩
theorem b_sum {a : Addr} {ns : List Int} (hs : SqL K H a (ns.map V.int)) (h : Q (.int ns.sum) H) : rSum2 K [.ref a] H Q := ⟨a, ns, rfl, hs, h⟩
theorem b_mx {i j : Int} (h : Q (.int (max i j)) H) : rMx2 K [.int i, .int j] H Q := ⟨i, j, rfl, by
  have e : (if j > i then j else i) = max i j := by split <;> omega
  rw [e]
  exact h⟩
theorem b_mn {i j : Int} (h : Q (.int (min i j)) H) : rMn2 K [.int i, .int j] H Q := ⟨i, j, rfl, by
  have e : (if j < i then j else i) = min i j := by split <;> omega
  rw [e]
  exact h⟩
theorem b_is2 {n : String} {x : V} {tv : Value} (ty : TyX K H x tv) (h : PySem.W.kitOne K tv (.type n) = some b) (q : Q (.bl b) H) : rIsi2 K [x, .ty n] H Q := .inl (b_isi ty h q)
theorem ls_new {a : Addr} {xs : List V} (hs : SqL K H a xs) (h : ∀ p H2, H p = none → Same H H2 → H2 p = some (.lst xs) → Q (.ref p) H2) : rLst K [.ref a] H Q := ⟨a, xs, rfl, .inl hs, new_same h⟩
theorem ls_newT {a : Addr} {xs : List V} (hs : SqT K H a xs) (h : ∀ p H2, H p = none → Same H H2 → H2 p = some (.lst xs) → Q (.ref p) H2) : rLst K [.ref a] H Q := ⟨a, xs, rfl, .inr hs, new_same h⟩
theorem tp_new {a : Addr} {xs : List V} (hs : SqL K H a xs) (h : ∀ p H2, H p = none → Same H H2 → H2 p = some (.tup xs) → Q (.ref p) H2) : W6.rTup K [.ref a] H Q := W6.b_tup hs h
theorem tp_same {a : Addr} {xs : List V} (hs : SqT K H a xs) (h : Q (.ref a) H) : W6.rTup K [.ref a] H Q := ⟨a, xs, rfl, .inr ⟨hs, h⟩⟩
end
/-! ### draws -/
/-- each draw lies below its size -/
inductive Dr : List Int → List Int → Prop
  | nil : Dr [] []
  | cons {d s : Int} {ds ss : List Int} : 0 ≤ d → d < s → Dr ds ss → Dr (d :: ds) (s :: ss)
theorem Dr.len : ∀ {ds ss : List Int}, Dr ds ss → ds.length = ss.length
  | _, _, .nil => rfl
  | _, _, .cons _ _ h => by rw [List.length_cons, List.length_cons, h.len]
theorem Dr.snoc : ∀ {ds ss : List Int} {d s : Int}, Dr ds ss → 0 ≤ d → d < s → Dr (ds ++ [d]) (ss ++ [s])
  | _, _, _, _, .nil, h1, h2 => .cons h1 h2 .nil
  | _, _, _, _, .cons a b h, h1, h2 => .cons a b (h.snoc h1 h2)
theorem Dr.at : ∀ {ds ss : List Int} {i : Nat} {s : Int}, Dr ds ss → ss[i]? = some s → ∃ d, ds[i]? = some d ∧ 0 ≤ d ∧ d < s
  | _, _, 0, _, .cons a b _, e => by cases e; exact ⟨_, rfl, a, b⟩
  | _, _, i + 1, _, .cons _ _ h, e => h.at (i := i) e
theorem Dr.get {ds ss : List Int} {i : Nat} {d : Int} (h : Dr ds ss) (e : ds[i]? = some d) : ∃ s, ss[i]? = some s ∧ 0 ≤ d ∧ d < s := by
  have hl := h.len
  have hi := (List.getElem?_eq_some_iff.mp e).1
  obtain ⟨d', e', h1, h2⟩ := h.at (i := i) (List.getElem?_eq_getElem (by omega))
  rw [e] at e'
  cases e'
  exact ⟨_, List.getElem?_eq_getElem (by omega), h1, h2⟩
theorem Dr.inv {ds ss : List Int} {s : Int} (h : Dr ds (s :: ss)) : ∃ d r, ds = d :: r ∧ 0 ≤ d ∧ d < s ∧ Dr r ss := by
  cases h with
  | cons h1 h2 h3 => exact ⟨_, _, rfl, h1, h2, h3⟩
theorem Dr.nil_inv {ds : List Int} (h : Dr ds []) : ds = [] := by
  cases h
  rfl
/-- sizes that may be drawn below -/
def SzOk (ss : List Int) : Prop := ss.length ≤ 1000 ∧ ∀ s ∈ ss, 0 < s ∧ s ≤ 10 ^ 80
theorem szOk_of {ss : List Int} (h : (decide (ss.length ≤ 1000) && ss.all fun s => decide (0 < s) && decide (s ≤ 10 ^ 80)) = true) : SzOk ss := by
  simp only [Bool.and_eq_true, decide_eq_true_eq, List.all_eq_true] at h
  exact h
def PR : List Int := [2147483647, 998244353, 1000000007, 1000000009, 4294967291, 1073741789, 536870909, 2305843009213693951]
theorem pr_at {j : Nat} (h : j < 8) : ∃ p, PR[j]? = some p ∧ 0 < p ∧ p < 2 ^ 62 := by
  have : ∀ j, j < 8 → 0 < PR.getD j 0 ∧ PR.getD j 0 < 2 ^ 62 := by decide +kernel
  exact ⟨PR.getD j 0, by rw [List.getD_eq_getElem?_getD, List.getElem?_eq_getElem (by exact h)]; rfl, this j h⟩
theorem ix_pr {K : PySem.W.Frag} {H : Hp} {Q : VK} {a : Addr} {i : Int} (e : H a = some (.lst (PR.map V.int))) (h0 : 0 ≤ i) (h8 : i < 8) (h : ∀ p : Int, 0 < p → p < 2 ^ 62 → Q (.int p) H) : rIx K (.ref a) (.int i) H Q := by
  obtain ⟨p, g, p1, p2⟩ := pr_at (j := i.toNat) (by omega)
  exact o_ixL (lst_of e) (atI_of (j := i.toNat) (by omega) (v := .int p) (by rw [List.getElem?_map, g]; rfl)) (h p p1 p2)
/-- an int out of a list of ints -/
theorem ix_int {K : PySem.W.Frag} {H : Hp} {Q : VK} {a : Addr} {xs : List Int} {i : Int} (hs : SqL K H a (xs.map V.int)) (h0 : 0 ≤ i) (h1 : i < xs.length) (h : ∀ x : Int, xs[i.toNat]? = some x → Q (.int x) H) : rIx K (.ref a) (.int i) H Q := by
  have e := List.getElem?_eq_getElem (l := xs) (i := i.toNat) (by omega)
  exact o_ixL hs (atI_of (j := i.toNat) (by omega) (v := .int xs[i.toNat]) (by rw [List.getElem?_map, e]; rfl)) (h _ e)
def spCellN (K : PySem.W.Frag) : Sp := fun vs H Q _ => ∃ (a : Addr) (ns : List Int) (k : Int), vs = [.ref a, .int k] ∧ SqL K H a (ns.map V.int) ∧ ∀ r : Int, Q (.int r) H
def spDraws (K : PySem.W.Frag) : Sp := fun vs H Q _ => ∃ (a b : Addr) (ns ss : List Int) (k : Int), vs = [.ref a, .int k, .ref b] ∧ SqL K H a (ns.map V.int) ∧ SqL K H b (ss.map V.int) ∧ SzOk ss ∧
  ∀ p H' ds, Same H H' → H p = none → H' p = some (.lst ((ds : List Int).map V.int)) → Dr ds ss → Q (.ref p) H'
/-! ### lists and tuples alike -/
def iSeq (K : PySem.W.Frag) (te : TE) : TI := fun σ H R => iList K te σ H R ∨ iTup K te σ H R
theorem pi_seq {X : Cx} {tg e : Expr} {te : TE} (h : PE X e te) : PI X tg e (iSeq X.K te) := ⟨fun pins s σ H R I q => q.elim (fun q => (pi_list h).run pins s σ H R I q) (fun q => (pi_tup h).run pins s σ H R I q)⟩
theorem w_sl {K : PySem.W.Frag} {te : TE} {σ : L2.St} {H : Hp} {R : It → Hp → Prop} (h : te σ H fun x H1 => KL K x H1 R) : iSeq K te σ H R := .inl h
theorem w_st {K : PySem.W.Frag} {te : TE} {σ : L2.St} {H : Hp} {R : It → Hp → Prop} (h : te σ H fun x H1 => KT K x H1 R) : iSeq K te σ H R := .inr h
def Sq (K : PySem.W.Frag) (H : Hp) (a : Addr) (xs : List V) : Prop := SqL K H a xs ∨ SqT K H a xs
theorem Sq.same {K : PySem.W.Frag} {H H' : Hp} {a : Addr} {xs : List V} (h : Sq K H a xs) (s : Same H H') : Sq K H' a xs := h.imp (fun h => s.seq h) fun h => seqT s h
/-- an iterator over such -/
def SqIt (K : PySem.W.Frag) (a : Addr) (xs : List V) (J : It) (H : Hp) : Prop := (J = Itl K a ∧ SqL K H a xs) ∨ (J = Itt K a ∧ SqT K H a xs)
theorem SqIt.same {K : PySem.W.Frag} {H H' : Hp} {a : Addr} {xs : List V} {J : It} (h : SqIt K a xs J H) (s : Same H H') : SqIt K a xs J H' := h.imp (fun h => ⟨h.1, s.seq h.2⟩) fun h => ⟨h.1, seqT s h.2⟩
section
variable {K : PySem.W.Frag} {σ : L2.St} {H : Hp} {Q : VK} {D : Ends} {t : TS} {te : TE} {tt : TT} {g : TG} {a : Addr} {xs : List V} {vs : List Nat} {i : Nat} {J : It}
/-- for x in v, v a slot -/
theorem w_sq {R : It → Hp → Prop} (hs : Sq K H a xs) (e : σ[i]? = some (some (.ref a))) (h : ∀ J, SqIt K a xs J H → R J H) : iSeq K (tVar i) σ H R := by
  rcases hs with hs | hs
  · exact .inl (w_l (e_var e (k_l hs (h _ (.inl ⟨rfl, hs⟩)))))
  · exact .inr (w_t (e_var e (k_t hs (h _ (.inr ⟨rfl, hs⟩)))))
theorem f_sq {H0 : Hp} (hJ : SqIt K a xs J H0) (Pv : Nat → L2.St → Hp → Prop) (h0 : Pv 0 σ H) (hl : ∀ i σ H, Pv i σ H → Same H0 H)
    (hs : ∀ i x σ H, xs[i]? = some x → Pv i σ H → g x σ H fun σ2 H2 => t ⟨Pv (i + 1), D.rt, D.nx, Pv (i + 1)⟩ σ2 H2) (hd : ∀ σ H, Pv xs.length σ H → D.nx σ H) : LoopF J g t D σ H := by
  rcases hJ with ⟨rfl, hJ⟩ | ⟨rfl, hJ⟩
  · exact f_list Pv h0 (fun i σ H _ p => (hl i σ H p).seq hJ) hs hd
  · exact f_tup Pv h0 (fun i σ H _ p => seqT (hl i σ H p) hJ) hs hd
/-- a list comprehension: what is taken so far -/
theorem c_acc (hJ : SqIt K a xs J H) (R : Nat → List V → Hp → Prop) (mono : ∀ i acc H H', TK H H' → R i acc H → R i acc H') (small : ∀ i acc H, i ≤ xs.length → R i acc H → acc.length < sizeLine) (r0 : R 0 [] H)
    (step : ∀ i x H1 acc (N : VK) (M : Hp → Prop), xs[i]? = some x → Same H H1 → R i acc H1 → (∀ y H3, Same H1 H3 → R (i + 1) (acc ++ [y]) H3 → N y H3) → (∀ H3, Same H1 H3 → R (i + 1) acc H3 → M H3) →
      g x (wipe σ vs) H1 fun σ2 H2 => wipe σ2 vs = wipe σ vs ∧ tt σ2 H2 fun b H3 => if b = true then te σ2 H3 N else M H3)
    (post : ∀ D H2 ys, H D = none → Same H H2 → H2 D = some (.lst ys) → R xs.length ys H2 → Q (.ref D) H2) : LoopC J g tt te vs σ H Q := by
  have key : ∀ (D : Addr) (i : Nat) (x : V) (H1 : Hp), xs[i]? = some x → H D = none → (Same H H1 ∧ ∃ acc, H1 D = some (.lst acc) ∧ R i acc H1) → g x (wipe σ vs) H1 fun σ2 H2 => wipe σ2 vs = wipe σ vs ∧ tt σ2 H2 fun b H3 =>
      if b = true then te σ2 H3 fun y H4 => COut D y H4 (fun H5 => Same H H5 ∧ ∃ acc, H5 D = some (.lst acc) ∧ R (i + 1) acc H5) else (fun H5 => Same H H5 ∧ ∃ acc, H5 D = some (.lst acc) ∧ R (i + 1) acc H5) H3 := by
    intro D i x H1 hx nD ⟨s1, acc, e1, r1⟩
    have hi := (List.getElem?_eq_some_iff.mp hx).1
    refine step i x H1 acc _ _ hx s1 r1 (fun y H3 s3 r3 => ?_) (fun H3 s3 r3 => ⟨s1.trans s3, acc, s3 _ _ e1, r3⟩)
    refine c_out (s3 _ _ e1) (small i acc H1 (by omega) r1) fun H4 c4 e4 => ⟨c4.same (s1.trans s3) nD, _, e4, mono _ _ _ _ (c4.tk (s3 _ _ e1)) r3⟩
  have p0 : ∀ (D : Addr) (H1 : Hp), H D = none → Same H H1 → H1 D = some (.lst []) → (Same H H1 ∧ ∃ acc, H1 D = some (.lst acc) ∧ R 0 acc H1) := fun D H1 nD s1 e1 => ⟨s1, [], e1, mono _ _ _ _ s1.tk r0⟩
  have pe : ∀ (D : Addr) (H1 : Hp), H D = none → (Same H H1 ∧ ∃ acc, H1 D = some (.lst acc) ∧ R xs.length acc H1) → Q (.ref D) H1 := fun D H1 nD ⟨s1, acc, e1, r1⟩ => post D H1 acc nD s1 e1 r1
  rcases hJ with ⟨rfl, hJ⟩ | ⟨rfl, hJ⟩
  · exact c_list (fun D i H1 => Same H H1 ∧ ∃ acc, H1 D = some (.lst acc) ∧ R i acc H1) p0 (fun D i H1 _ _ p => p.1.seq hJ) (fun D i x H1 hx nD p => key D i x H1 hx nD p) pe
  · exact fun D nD => lc_tup (fun i H1 => Same H H1 ∧ ∃ acc, H1 D = some (.lst acc) ∧ R i acc H1) (p0 D _ nD (same_new nD) upd_same) (fun i H1 _ p => seqT p.1 hJ) (fun i x H1 hx p => key D i x H1 hx nD p) fun H1 p => pe D H1 nD p
theorem c_accR {lo : Int} {n : Nat} (R : Nat → List V → Hp → Prop) (mono : ∀ i acc H H', TK H H' → R i acc H → R i acc H') (small : ∀ i acc H, i ≤ n → R i acc H → acc.length < sizeLine) (r0 : R 0 [] H)
    (step : ∀ i H1 acc (N : VK) (M : Hp → Prop), i < n → Same H H1 → R i acc H1 → (∀ y H3, Same H1 H3 → R (i + 1) (acc ++ [y]) H3 → N y H3) → (∀ H3, Same H1 H3 → R (i + 1) acc H3 → M H3) →
      g (.int (lo + i)) (wipe σ vs) H1 fun σ2 H2 => wipe σ2 vs = wipe σ vs ∧ tt σ2 H2 fun b H3 => if b = true then te σ2 H3 N else M H3)
    (post : ∀ D H2 ys, H D = none → Same H H2 → H2 D = some (.lst ys) → R n ys H2 → Q (.ref D) H2) : LoopC (Itr lo n) g tt te vs σ H Q := by
  refine c_range (fun D i H1 => Same H H1 ∧ ∃ acc, H1 D = some (.lst acc) ∧ R i acc H1) (fun D H1 nD s1 e1 => ⟨s1, [], e1, mono _ _ _ _ s1.tk r0⟩) (fun D i H1 hi nD p => ?_) (fun D H1 nD ⟨s1, acc, e1, r1⟩ => post D H1 acc nD s1 e1 r1)
  obtain ⟨s1, acc, e1, r1⟩ := p
  refine step i H1 acc _ _ hi s1 r1 (fun y H3 s3 r3 => ?_) (fun H3 s3 r3 => ⟨s1.trans s3, acc, s3 _ _ e1, r3⟩)
  refine c_out (s3 _ _ e1) (small i acc H1 (by omega) r1) fun H4 c4 e4 => ⟨c4.same (s1.trans s3) nD, _, e4, mono _ _ _ _ (c4.tk (s3 _ _ e1)) r3⟩
end
/-- one value an item -/
def One (P : Nat → V → Hp → Prop) (i : Nat) (acc : List V) (H : Hp) : Prop := acc.length = i ∧ ∀ j y, acc[j]? = some y → P j y H
theorem One.zero {P : Nat → V → Hp → Prop} {H : Hp} : One P 0 [] H := ⟨rfl, fun j y e => by cases e⟩
theorem One.snoc {P : Nat → V → Hp → Prop} {i : Nat} {acc : List V} {H H3 : Hp} {y : V} (mono : ∀ j z, P j z H → P j z H3) (o : One P i acc H) (h : P i y H3) : One P (i + 1) (acc ++ [y]) H3 := by
  refine ⟨by rw [List.length_append, o.1]; rfl, fun j z e => ?_⟩
  by_cases hj : j < acc.length
  · rw [List.getElem?_append_left hj] at e
    exact mono _ _ (o.2 j z e)
  · have hj2 := (List.getElem?_eq_some_iff.mp e).1
    rw [List.length_append, List.length_singleton] at hj2
    have : j = acc.length := by omega
    subst this
    rw [List.getElem?_append_right (Nat.le_refl _), Nat.sub_self] at e
    cases e
    rw [o.1]
    exact h
/-- the list is known from its items -/
theorem One.eq {P : Nat → V → Hp → Prop} {α : Type} {F : α → V} {xs : List α} {acc : List V} {H : Hp} (o : One P xs.length acc H) (h : ∀ j y, j < xs.length → P j y H → xs[j]?.map F = some y) : acc = xs.map F := by
  refine List.ext_getElem? fun j => ?_
  by_cases hj : j < xs.length
  · have hj2 : j < acc.length := by rw [o.1]; exact hj
    rw [List.getElem?_map, h j _ hj (o.2 j acc[j] (List.getElem?_eq_getElem hj2)), List.getElem?_eq_getElem hj2]
  · rw [List.getElem?_eq_none (by rw [o.1]; omega), List.getElem?_eq_none (by rw [List.length_map]; omega)]
theorem One.eqR {P : Nat → V → Hp → Prop} {n : Nat} {F : Nat → V} {acc : List V} {H : Hp} (o : One P n acc H) (h : ∀ j y, j < n → P j y H → y = F j) : acc = (List.range n).map F := by
  refine One.eq (xs := List.range n) (F := F) (by rw [List.length_range]; exact o) fun j y hj p => ?_
  rw [List.length_range] at hj
  rw [List.getElem?_range hj, h j y hj p]
  rfl
theorem One.ints {P : Nat → V → Hp → Prop} {n : Nat} {acc : List V} {H : Hp} (o : One P n acc H) (h : ∀ j y, j < n → P j y H → ∃ i : Int, y = .int i) : ∃ xs : List Int, acc = xs.map V.int ∧ xs.length = n := by
  have key : ∀ acc : List V, (∀ y ∈ acc, ∃ i : Int, y = .int i) → ∃ xs : List Int, acc = xs.map V.int := by
    intro acc
    induction acc with
    | nil => exact fun _ => ⟨[], rfl⟩
    | cons y r ih =>
      intro h
      obtain ⟨i, rfl⟩ := h y List.mem_cons_self
      obtain ⟨xs, rfl⟩ := ih fun z hz => h z (List.mem_cons_of_mem _ hz)
      exact ⟨i :: xs, rfl⟩
  obtain ⟨xs, e⟩ := key acc fun y hy => by
    obtain ⟨j, hj, e⟩ := List.getElem_of_mem hy
    exact h j y (by rw [← o.1]; exact hj) (o.2 j y (by rw [List.getElem?_eq_getElem hj, e]))
  exact ⟨xs, e, by rw [← o.1, e, List.length_map]⟩
/-- `xs` with the pattern n times -/
theorem One.const {n : Nat} {acc : List V} {H : Hp} {v : V} (o : One (fun _ y _ => y = v) n acc H) : acc = List.replicate n v := by
  refine List.ext_getElem? fun j => ?_
  rw [List.getElem?_replicate]
  by_cases hj : j < n
  · rw [if_pos hj, List.getElem?_eq_getElem (by rw [o.1]; exact hj), o.2 j _ (List.getElem?_eq_getElem (by rw [o.1]; exact hj))]
  · rw [if_neg hj, List.getElem?_eq_none (by rw [o.1]; omega)]
end WN
/-! WQ: data that is equal. -/
namespace WQ
open PySem PySem.Spec PyProof.Rows L2 Wy WN
mutual
/-- no truth value in it -/
def nb : PyData → Bool
  | .none => true
  | .bool _ => false
  | .int _ => true
  | .str _ => true
  | .list xs => nbAll xs
  | .tuple xs => nbAll xs
  | .dict _ => false
def nbAll : List PyData → Bool
  | [] => true
  | x :: xs => nb x && nbAll xs
end
mutual
theorem eqv_iff : ∀ (d e : PyData), nb d = true → nb e = true → (PyData.eqv d e = true ↔ d = e)
  | .none, e, _, h => by cases e <;> simp [PyData.eqv, nb] at h ⊢
  | .bool _, _, h, _ => by simp [nb] at h
  | .int i, e, _, h => by cases e <;> simp [PyData.eqv, nb] at h ⊢
  | .str x, e, _, h => by cases e <;> simp [PyData.eqv, nb] at h ⊢
  | .list xs, e, h, h' => by
    cases e with
    | list ys =>
      have ih := eqvAll_iff xs ys (by simpa [nb] using h) (by simpa [nb] using h')
      simp [PyData.eqv, ih]
    | _ => simp [PyData.eqv, nb] at h' ⊢
  | .tuple xs, e, h, h' => by
    cases e with
    | tuple ys =>
      have ih := eqvAll_iff xs ys (by simpa [nb] using h) (by simpa [nb] using h')
      simp [PyData.eqv, ih]
    | _ => simp [PyData.eqv, nb] at h' ⊢
  | .dict _, _, h, _ => by simp [nb] at h
theorem eqvAll_iff : ∀ (xs ys : List PyData), nbAll xs = true → nbAll ys = true → (PyData.eqvAll xs ys = true ↔ xs = ys)
  | [], [], _, _ => by simp [PyData.eqvAll]
  | [], _ :: _, _, _ => by simp [PyData.eqvAll]
  | _ :: _, [], _, _ => by simp [PyData.eqvAll]
  | x :: xs, y :: ys, h, h' => by
    simp only [nbAll, Bool.and_eq_true] at h h'
    have i1 := eqv_iff x y h.1 h'.1
    have i2 := eqvAll_iff xs ys h.2 h'.2
    simp [PyData.eqvAll, i1, i2]
end
theorem shaped_of {d : PyData} (h : d.canLay0 = true) (h2 : d.depth ≤ 64) : SeqAt.shaped d = true := by
  unfold SeqAt.shaped
  rw [h, decide_eq_true h2]
  rfl
section
variable {K : PySem.W.Frag} {H : Hp} {Q : VK} {x y : V} {d e : PyData}
theorem eq_same (h1 : Dp K H x d) (h2 : Dp K H y d) (hs : SeqAt.shaped d = true) (h : Q (.bl true) H) : rEq2 K x y H Q := by
  refine o_eqD h1 h2 hs hs ?_
  rw [SeqAt.eqv_refl _ (SeqAt.canLay_of_shaped hs)]
  exact h
theorem ne_same (h1 : Dp K H x d) (h2 : Dp K H y d) (hs : SeqAt.shaped d = true) (h : Q (.bl false) H) : rNe2 K x y H Q := by
  refine o_neD h1 h2 hs hs ?_
  rw [SeqAt.eqv_refl _ (SeqAt.canLay_of_shaped hs)]
  exact h
theorem eq_nb (h1 : Dp K H x d) (h2 : Dp K H y e) (hs : SeqAt.shaped d = true) (hs2 : SeqAt.shaped e = true) (n1 : nb d = true) (n2 : nb e = true) (hy : d = e → Q (.bl true) H) (hn : d ≠ e → Q (.bl false) H) : rEq2 K x y H Q := by
  refine o_eqD h1 h2 hs hs2 ?_
  have i := eqv_iff d e n1 n2
  cases q : PyData.eqv d e with
  | true => exact hy (i.mp q)
  | false => exact hn fun z => by rw [i.mpr z] at q; cases q
theorem ne_nb (h1 : Dp K H x d) (h2 : Dp K H y e) (hs : SeqAt.shaped d = true) (hs2 : SeqAt.shaped e = true) (n1 : nb d = true) (n2 : nb e = true) (hy : d = e → Q (.bl false) H) (hn : d ≠ e → Q (.bl true) H) : rNe2 K x y H Q := by
  refine o_neD h1 h2 hs hs2 ?_
  have i := eqv_iff d e n1 n2
  cases q : PyData.eqv d e with
  | true => exact hy (i.mp q)
  | false => exact hn fun z => by rw [i.mpr z] at q; cases q
end
theorem lay_all {α : Type} (F : α → PyData) : ∀ xs : List α, (∀ x ∈ xs, (F x).canLay0 = true) → PyData.canLayAll0 (xs.map F) = true
  | [], _ => by simp [PyData.canLayAll0]
  | x :: xs, h => by simp [PyData.canLayAll0, h x List.mem_cons_self, lay_all F xs fun y hy => h y (List.mem_cons_of_mem _ hy)]
theorem dep_all {α : Type} (F : α → PyData) (n : Nat) : ∀ xs : List α, (∀ x ∈ xs, (F x).depth ≤ n) → PyData.depthAll (xs.map F) ≤ n
  | [], _ => by simp [PyData.depthAll]
  | x :: xs, h => by
    have h1 := h x List.mem_cons_self
    have h2 := dep_all F n xs fun y hy => h y (List.mem_cons_of_mem _ hy)
    simp only [List.map_cons, PyData.depthAll]
    omega
theorem nb_all {α : Type} (F : α → PyData) : ∀ xs : List α, (∀ x ∈ xs, nb (F x) = true) → nbAll (xs.map F) = true
  | [], _ => by simp [nbAll]
  | x :: xs, h => by simp [nbAll, h x List.mem_cons_self, nb_all F xs fun y hy => h y (List.mem_cons_of_mem _ hy)]
theorem shL {α : Type} (F : α → PyData) (xs : List α) (n : Nat) (hn : n < 64) (h : ∀ x ∈ xs, (F x).canLay0 = true ∧ (F x).depth ≤ n) : SeqAt.shaped (.list (xs.map F)) = true :=
  shaped_of (by simp [PyData.canLay0, lay_all F xs fun x hx => (h x hx).1]) (by have := dep_all F n xs fun x hx => (h x hx).2; simp only [PyData.depth]; omega)
theorem shT {α : Type} (F : α → PyData) (xs : List α) (n : Nat) (hn : n < 64) (h : ∀ x ∈ xs, (F x).canLay0 = true ∧ (F x).depth ≤ n) : SeqAt.shaped (.tuple (xs.map F)) = true :=
  shaped_of (by simp [PyData.canLay0, lay_all F xs fun x hx => (h x hx).1]) (by have := dep_all F n xs fun x hx => (h x hx).2; simp only [PyData.depth]; omega)
theorem lay_int (i : Int) : (PyData.int i).canLay0 = true ∧ (PyData.int i).depth ≤ 0 := ⟨by simp [PyData.canLay0], by simp [PyData.depth]⟩
theorem lay_bool (b : Bool) : (PyData.bool b).canLay0 = true ∧ (PyData.bool b).depth ≤ 0 := ⟨by simp [PyData.canLay0], by simp [PyData.depth]⟩
theorem lay_tup {ds : List PyData} {n : Nat} (h : ∀ x ∈ ds, x.canLay0 = true ∧ x.depth ≤ n) : (PyData.tuple ds).canLay0 = true ∧ (PyData.tuple ds).depth ≤ n + 1 := by
  have h1 := lay_all id ds fun x hx => (h x hx).1
  have h2 := dep_all id n ds fun x hx => (h x hx).2
  rw [List.map_id] at h1 h2
  exact ⟨by simp [PyData.canLay0, h1], by simp only [PyData.depth]; omega⟩
/-! values to data -/
theorem dp_ints {K : PySem.W.Frag} {H : Hp} : ∀ xs : List Int, DpAll K H (xs.map V.int) (xs.map PyData.int)
  | [] => .nil
  | x :: xs => .cons (.int x) (dp_ints xs)
theorem dp_bls {K : PySem.W.Frag} {H : Hp} : ∀ xs : List Bool, DpAll K H (xs.map V.bl) (xs.map PyData.bool)
  | [] => .nil
  | x :: xs => .cons (.bl x) (dp_bls xs)
theorem tp_ints {H : Hp} : ∀ xs : List Int, TpAll H (xs.map V.int) (xs.map PyData.int)
  | [] => .nil
  | x :: xs => .cons (.int x) (tp_ints xs)
theorem ints_tp {H : Hp} : ∀ {xs : List Int} {vs : List V}, TpAll H vs (xs.map PyData.int) → vs = xs.map V.int
  | [], _, h => by cases h; rfl
  | x :: xs, _, h => by
    cases h with
    | cons h1 h2 =>
      cases h1
      rw [ints_tp h2]
      rfl
theorem tpGet {α : Type} {F : α → PyData} {H : Hp} {us : List V} {xs : List α} {i : Nat} {u : V} (t : TpAll H us (xs.map F)) (e : us[i]? = some u) : ∃ x, xs[i]? = some x ∧ Tp H u (F x) := by
  have hl := t.length
  rw [List.length_map] at hl
  have hi := (List.getElem?_eq_some_iff.mp e).1
  have hx : xs[i]? = some xs[i] := List.getElem?_eq_getElem (by omega)
  obtain ⟨v, e2, tv⟩ := t.get (i := i) (d := F xs[i]) (by rw [List.getElem?_map, hx]; rfl)
  rw [e] at e2
  cases e2
  exact ⟨_, hx, tv⟩
theorem tpAt {α : Type} {F : α → PyData} {H : Hp} {us : List V} {xs : List α} {i : Nat} {x : α} (t : TpAll H us (xs.map F)) (e : xs[i]? = some x) : ∃ u, us[i]? = some u ∧ Tp H u (F x) :=
  t.get (by rw [List.getElem?_map, e]; rfl)
theorem tp3 {H : Hp} {v : V} {d1 d2 d3 : PyData} (h : Tp H v (.tuple [d1, d2, d3])) : ∃ a v1 v2 v3, v = .ref a ∧ H a = some (.tup [v1, v2, v3]) ∧ Tp H v1 d1 ∧ Tp H v2 d2 ∧ Tp H v3 d3 := by
  cases h with
  | tup e r =>
    cases r with | cons h1 r => cases r with | cons h2 r => cases r with | cons h3 r =>
      cases r
      exact ⟨_, _, _, _, rfl, e, h1, h2, h3⟩
theorem tp2 {H : Hp} {v : V} {d1 d2 : PyData} (h : Tp H v (.tuple [d1, d2])) : ∃ a v1 v2, v = .ref a ∧ H a = some (.tup [v1, v2]) ∧ Tp H v1 d1 ∧ Tp H v2 d2 := by
  cases h with
  | tup e r =>
    cases r with | cons h1 r => cases r with | cons h2 r =>
      cases r
      exact ⟨_, _, _, rfl, e, h1, h2⟩
theorem tpL {H : Hp} {v : V} {ds : List PyData} (h : Tp H v (.tuple ds)) : ∃ a vs, v = .ref a ∧ H a = some (.tup vs) ∧ TpAll H vs ds := by
  cases h with
  | tup e r => exact ⟨_, _, rfl, e, r⟩
theorem tpSnoc {H : Hp} {us : List V} {ds : List PyData} {v : V} {d : PyData} (t : TpAll H us ds) (h : Tp H v d) : TpAll H (us ++ [v]) (ds ++ [d]) := by
  induction us generalizing ds with
  | nil => cases t; exact .cons h .nil
  | cons u r ih => cases t with | cons a b => exact .cons a (ih b)
theorem tpApp {H : Hp} {us vs : List V} {ds es : List PyData} (t : TpAll H us ds) (h : TpAll H vs es) : TpAll H (us ++ vs) (ds ++ es) := by
  induction us generalizing ds with
  | nil => cases t; exact h
  | cons u r ih => cases t with | cons a b => exact .cons a (ih b)
theorem tpOf {H : Hp} : ∀ {us : List V} {ds : List PyData}, us.length = ds.length → (∀ (j : Nat) (y : V) (d : PyData), us[j]? = some y → ds[j]? = some d → Tp H y d) → TpAll H us ds
  | [], [], _, _ => .nil
  | [], _ :: _, h, _ => by simp at h
  | _ :: _, [], h, _ => by simp at h
  | u :: us, d :: ds, h, g => .cons (g 0 u d rfl rfl) (tpOf (by simpa using h) fun j y d a b => g (j + 1) y d (by simpa using a) (by simpa using b))
/-- one by one over a range -/
theorem tpOne {P : Nat → V → Hp → Prop} {F : Nat → PyData} {n : Nat} {us : List V} {H : Hp} (o : One P n us H) (h : ∀ j y, j < n → P j y H → Tp H y (F j)) : TpAll H us ((List.range n).map F) :=
  tpOf (by rw [o.1, List.length_map, List.length_range]) fun j y d a b => by
    have hj : j < n := by have := (List.getElem?_eq_some_iff.mp a).1; rw [o.1] at this; exact this
    rw [List.getElem?_map, List.getElem?_range hj] at b
    cases b
    exact h j y hj (o.2 j y a)
/-- tuples of ints -/
def iT (xs : List Int) : PyData := .tuple (xs.map .int)
theorem tpI {H : Hp} {v : V} {xs : List Int} (h : Tp H v (iT xs)) : ∃ a, v = .ref a ∧ H a = some (.tup (xs.map V.int)) := by
  obtain ⟨a, vs, rfl, e, t⟩ := tpL h
  rw [ints_tp t] at e
  exact ⟨a, rfl, e⟩
theorem iT_tp {H : Hp} {a : Addr} {xs : List Int} (e : H a = some (.tup (xs.map V.int))) : Tp H (.ref a) (iT xs) := .tup e (tp_ints xs)
theorem iT_lay (xs : List Int) : (iT xs).canLay0 = true ∧ (iT xs).depth ≤ 1 := lay_tup fun x hx => by
  obtain ⟨i, _, rfl⟩ := List.mem_map.mp hx
  exact lay_int i
theorem nb_int : ∀ xs : List Int, nbAll (xs.map PyData.int) = true
  | [] => rfl
  | x :: xs => by simp [nbAll, nb, nb_int xs]
theorem iT_nb (xs : List Int) : nb (iT xs) = true := by
  show nbAll _ = true
  exact nb_int xs
end WQ
/-! WS: differences and values. -/
namespace WS
open PySem PySem.Spec PyProof.Rows L2 Wy WN WQ
abbrev Df := Int × Int × Int
def dfD (d : Df) : PyData := .tuple [.int d.1, .int d.2.1, .int d.2.2]
theorem dfD_lay (d : Df) : (dfD d).canLay0 = true ∧ (dfD d).depth ≤ 1 := lay_tup (n := 0) fun x hx => by
  simp only [List.mem_cons, List.not_mem_nil, or_false] at hx
  rcases hx with rfl | rfl | rfl <;> exact lay_int _
theorem dfD_nb (d : Df) : nb (dfD d) = true := rfl
/-- the value of a node -/
def lv (vs : List Int) (n : Int) : Int := (0 :: vs).getD n.toNat 0
def kept (vs : List Int) (d : Df) : Bool := decide (lv vs d.1 - lv vs d.2.1 ≤ d.2.2)
def InR (n : Nat) (d : Df) : Prop := 0 ≤ d.1 ∧ d.1 ≤ n ∧ 0 ≤ d.2.1 ∧ d.2.1 ≤ n
theorem lv_at {vs : List Int} {n : Int} (h0 : 0 ≤ n) (h1 : n ≤ vs.length) : ((0 :: vs).map V.int)[n.toNat]? = some (.int (lv vs n)) := by
  have : n.toNat < (0 :: vs).length := by rw [List.length_cons]; omega
  rw [List.getElem?_map, List.getElem?_eq_getElem this]
  unfold lv
  rw [List.getD_eq_getElem?_getD, List.getElem?_eq_getElem this]
  rfl
section
variable {K : PySem.W.Frag} {H : Hp} {Q : VK} {a : Addr} {xs : List V} {x y z : V}
theorem ix_lv {vs : List Int} {n : Int} (hs : SqL K H a ((0 :: vs).map V.int)) (h0 : 0 ≤ n) (h1 : n ≤ vs.length) (h : Q (.int (lv vs n)) H) : rIx K (.ref a) (.int n) H Q := o_ixL hs (atI_of (j := n.toNat) (by omega) (lv_at h0 h1)) h
theorem b_allT (hs : SqL K H a xs) (hx : ∀ (j : Nat) (y : V), xs[j]? = some y → y = .bl true) (h : Q (.bl true) H) : rAll2 K [.ref a] H Q := by
  have e : xs = (List.replicate xs.length true).map V.bl := by
    refine List.ext_getElem? fun j => ?_
    rw [List.getElem?_map, List.getElem?_replicate]
    by_cases hj : j < xs.length
    · rw [if_pos hj, List.getElem?_eq_getElem hj, hx j _ (List.getElem?_eq_getElem hj)]
      rfl
    · rw [if_neg hj, List.getElem?_eq_none (by omega)]
      rfl
  rw [e] at hs
  refine b_all hs ?_
  have : (List.replicate xs.length true).all id = true := by simp
  rw [this]
  exact h
/-- all of truths that are known one by one -/
theorem b_allM {α : Type} {ds : List α} {f : α → Bool} (hs : SqL K H a (ds.map fun d => V.bl (f d))) (h : Q (.bl (ds.all f)) H) : rAll2 K [.ref a] H Q := by
  have e : ds.map (fun d => V.bl (f d)) = (ds.map f).map V.bl := by rw [List.map_map]; rfl
  rw [e] at hs
  refine b_all hs ?_
  have : (ds.map f).all id = ds.all f := by rw [List.all_map]; rfl
  rw [this]
  exact h
theorem b_len0 (hs : SqL K H a []) (h : Q (.int 0) H) : rLn K [.ref a] H Q := b_lenL hs h
theorem b_lenT0 (hs : SqT K H a []) (h : Q (.int 0) H) : rLn K [.ref a] H Q := b_lenT hs h
theorem b_lenT1 (hs : SqT K H a [x]) (h : Q (.int 1) H) : rLn K [.ref a] H Q := b_lenT hs h
theorem b_lenT2 (hs : SqT K H a [x, y]) (h : Q (.int 2) H) : rLn K [.ref a] H Q := b_lenT hs h
theorem b_lenT3 (hs : SqT K H a [x, y, z]) (h : Q (.int 3) H) : rLn K [.ref a] H Q := b_lenT hs h
end
def spIsInt : Sp := fun vs H Q _ => ∃ i : Int, vs = [.int i] ∧ Q (.bl true) H
/-- all differences kept by values -/
def spKept (K : PySem.W.Frag) : Sp := fun vs H Q _ => ∃ (a b : Addr) (us : List V) (ds : List Df) (vals : List Int), vs = [.ref a, .ref b] ∧ Sq K H a us ∧ TpAll H us (ds.map dfD) ∧ H b = some (.lst (vals.map V.int)) ∧ (∀ d ∈ ds, InR vals.length d) ∧
  ds.length ≤ 1000 ∧ vals.length ≤ 900 ∧ ∀ H', Same H H' → Q (.bl (ds.all (kept vals))) H'
end WS
namespace K03
open PySem PySem.Spec PyProof.Rows L2 Wy
/-! ### the text -/
def top (i : Nat) : Stmt := PySem.Challenge.pw_wayorring_k03_conditions_read_back.main.body.getD i (.Pass ⟨0, 0, 0, 0⟩)
abbrev s_split_row : Stmt := top 8
abbrev n_split_row : List Str := ["text", "words", "at", "end"]
theorem sc_split_row : FnScope n_split_row ["text"] (defScope s_split_row) := C8.fnScope_by (by decide +kernel)
abbrev s_is_name : Stmt := top 9
abbrev n_is_name : List Str := ["word"]
theorem sc_is_name : FnScope n_is_name ["word"] (defScope s_is_name) := C8.fnScope_by (by decide +kernel)
abbrev s_is_number : Stmt := top 10
abbrev n_is_number : List Str := ["word"]
theorem sc_is_number : FnScope n_is_number ["word"] (defScope s_is_number) := C8.fnScope_by (by decide +kernel)
abbrev s_is_numeral : Stmt := top 11
abbrev n_is_numeral : List Str := ["word", "most"]
theorem sc_is_numeral : FnScope n_is_numeral ["word", "most"] (defScope s_is_numeral) := C8.fnScope_by (by decide +kernel)
abbrev s_word_at : Stmt := top 12
abbrev n_word_at : List Str := ["words", "at"]
theorem sc_word_at : FnScope n_word_at ["words", "at"] (defScope s_word_at) := C8.fnScope_by (by decide +kernel)
abbrev s_word_end : Stmt := top 13
abbrev n_word_end : List Str := ["text", "at"]
theorem sc_word_end : FnScope n_word_end ["text", "at"] (defScope s_word_end) := C8.fnScope_by (by decide +kernel)
abbrev s_run_end : Stmt := top 14
abbrev n_run_end : List Str := ["text", "at", "characters"]
theorem sc_run_end : FnScope n_run_end ["text", "at", "characters"] (defScope s_run_end) := C8.fnScope_by (by decide +kernel)
abbrev s_read_condition : Stmt := top 19
abbrev n_read_condition : List Str := ["text", "words"]
theorem sc_read_condition : FnScope n_read_condition ["text"] (defScope s_read_condition) := C8.fnScope_by (by decide +kernel)
abbrev s_condition_of : Stmt := top 20
abbrev n_condition_of : List Str := ["words"]
theorem sc_condition_of : FnScope n_condition_of ["words"] (defScope s_condition_of) := C8.fnScope_by (by decide +kernel)
abbrev s_write_expression : Stmt := top 21
abbrev n_write_expression : List Str := ["expression", "_", "name", "plus", "index"]
theorem sc_write_expression : FnScope n_write_expression ["expression"] (defScope s_write_expression) := C8.fnScope_by (by decide +kernel)
abbrev s_write_condition : Stmt := top 22
abbrev n_write_condition : List Str := ["condition", "_", "sign", "left", "right", "word", "parts", "joint", "part"]
theorem sc_write_condition : FnScope n_write_condition ["condition"] (defScope s_write_condition) := C8.fnScope_by (by decide +kernel)
abbrev s_whole : Stmt := top 23
abbrev n_whole : List Str := ["taken", "words"]
theorem sc_whole : FnScope n_whole ["taken", "words"] (defScope s_whole) := C8.fnScope_by (by decide +kernel)
abbrev s_take_signed : Stmt := top 24
abbrev n_take_signed : List Str := ["words", "at"]
theorem sc_take_signed : FnScope n_take_signed ["words", "at"] (defScope s_take_signed) := C8.fnScope_by (by decide +kernel)
abbrev s_take_plus : Stmt := top 25
abbrev n_take_plus : List Str := ["words", "at", "sign", "number"]
theorem sc_take_plus : FnScope n_take_plus ["words", "at"] (defScope s_take_plus) := C8.fnScope_by (by decide +kernel)
abbrev s_take_plain : Stmt := top 26
abbrev n_take_plain : List Str := ["words", "at", "signed", "plus"]
theorem sc_take_plain : FnScope n_take_plain ["words", "at"] (defScope s_take_plain) := C8.fnScope_by (by decide +kernel)
abbrev s_take_expression : Stmt := top 27
abbrev n_take_expression : List Str := ["words", "at", "index", "plus"]
theorem sc_take_expression : FnScope n_take_expression ["words", "at"] (defScope s_take_expression) := C8.fnScope_by (by decide +kernel)
abbrev s_take_comparison : Stmt := top 28
abbrev n_take_comparison : List Str := ["words", "at", "left", "sign", "right"]
theorem sc_take_comparison : FnScope n_take_comparison ["words", "at"] (defScope s_take_comparison) := C8.fnScope_by (by decide +kernel)
abbrev s_take_joined : Stmt := top 29
abbrev n_take_joined : List Str := ["words", "at", "word", "many_open", "parts", "taken", "part"]
theorem sc_take_joined : FnScope n_take_joined ["words", "at", "word", "many_open"] (defScope s_take_joined) := C8.fnScope_by (by decide +kernel)
abbrev s_take_operand : Stmt := top 30
abbrev n_take_operand : List Str := ["words", "at", "many_open", "first", "operand", "inner"]
theorem sc_take_operand : FnScope n_take_operand ["words", "at", "many_open"] (defScope s_take_operand) := C8.fnScope_by (by decide +kernel)
abbrev s_write_plus : Stmt := top 31
abbrev n_write_plus : List Str := ["plus"]
theorem sc_write_plus : FnScope n_write_plus ["plus"] (defScope s_write_plus) := C8.fnScope_by (by decide +kernel)
abbrev s_write_below : Stmt := top 32
abbrev n_write_below : List Str := ["word", "part", "text"]
theorem sc_write_below : FnScope n_write_below ["word", "part"] (defScope s_write_below) := C8.fnScope_by (by decide +kernel)
abbrev s_law_draws : Stmt := top 34
abbrev n_law_draws : List Str := ["script", "many", "cell", "rests", "draws", "k", "at", "mixed"]
theorem sc_law_draws : FnScope n_law_draws ["script", "many"] (defScope s_law_draws) := C8.fnScope_by (by decide +kernel)
abbrev s_law_take : Stmt := top 35
abbrev n_law_take : List Str := ["hand", "many", "at", "draws"]
theorem sc_law_take : FnScope n_law_take ["hand", "many"] (defScope s_law_take) := C8.fnScope_by (by decide +kernel)
abbrev s_law_letters : Stmt := top 36
abbrev n_law_letters : List Str := []
theorem sc_law_letters : FnScope n_law_letters [] (defScope s_law_letters) := C8.fnScope_by (by decide +kernel)
abbrev s_law_reserved : Stmt := top 37
abbrev n_law_reserved : List Str := ["words"]
theorem sc_law_reserved : FnScope n_law_reserved [] (defScope s_law_reserved) := C8.fnScope_by (by decide +kernel)
abbrev s_law_is_name : Stmt := top 38
abbrev n_law_is_name : List Str := ["word", "char"]
theorem sc_law_is_name : FnScope n_law_is_name ["word"] (defScope s_law_is_name) := C8.fnScope_by (by decide +kernel)
abbrev s_law_is_number : Stmt := top 39
abbrev n_law_is_number : List Str := ["word", "char"]
theorem sc_law_is_number : FnScope n_law_is_number ["word"] (defScope s_law_is_number) := C8.fnScope_by (by decide +kernel)
abbrev s_law_simple : Stmt := top 40
abbrev n_law_simple : List Str := ["hand", "kind", "index"]
theorem sc_law_simple : FnScope n_law_simple ["hand"] (defScope s_law_simple) := C8.fnScope_by (by decide +kernel)
abbrev s_law_tree : Stmt := top 41
abbrev n_law_tree : List Str := ["hand", "depth", "purse", "kind", "sign", "many", "first", "parts", "k"]
theorem sc_law_tree : FnScope n_law_tree ["hand", "depth", "purse"] (defScope s_law_tree) := C8.fnScope_by (by decide +kernel)
abbrev s_law_plus_words : Stmt := top 42
abbrev n_law_plus_words : List Str := ["plus"]
theorem sc_law_plus_words : FnScope n_law_plus_words ["plus"] (defScope s_law_plus_words) := C8.fnScope_by (by decide +kernel)
abbrev s_law_words_of : Stmt := top 43
abbrev n_law_words_of : List Str := ["expression"]
theorem sc_law_words_of : FnScope n_law_words_of ["expression"] (defScope s_law_words_of) := C8.fnScope_by (by decide +kernel)
abbrev s_law_plus_text : Stmt := top 44
abbrev n_law_plus_text : List Str := ["plus"]
theorem sc_law_plus_text : FnScope n_law_plus_text ["plus"] (defScope s_law_plus_text) := C8.fnScope_by (by decide +kernel)
abbrev s_law_text : Stmt := top 45
abbrev n_law_text : List Str := ["expression"]
theorem sc_law_text : FnScope n_law_text ["expression"] (defScope s_law_text) := C8.fnScope_by (by decide +kernel)
abbrev s_law_needs : Stmt := top 46
abbrev n_law_needs : List Str := ["word", "part"]
theorem sc_law_needs : FnScope n_law_needs ["word", "part"] (defScope s_law_needs) := C8.fnScope_by (by decide +kernel)
abbrev s_law_condition_text : Stmt := top 47
abbrev n_law_condition_text : List Str := ["condition", "parts", "texts", "part", "text"]
theorem sc_law_condition_text : FnScope n_law_condition_text ["condition"] (defScope s_law_condition_text) := C8.fnScope_by (by decide +kernel)
abbrev s_law_joins : Stmt := top 48
abbrev n_law_joins : List Str := ["left", "right"]
theorem sc_law_joins : FnScope n_law_joins ["left", "right"] (defScope s_law_joins) := C8.fnScope_by (by decide +kernel)
abbrev s_law_spaced : Stmt := top 49
abbrev n_law_spaced : List Str := ["hand", "words", "text", "at", "many"]
theorem sc_law_spaced : FnScope n_law_spaced ["hand", "words"] (defScope s_law_spaced) := C8.fnScope_by (by decide +kernel)
abbrev s_law_spoilt : Stmt := top 50
abbrev n_law_spoilt : List Str := ["hand", "words", "odd", "at", "kind", "word", "other", "row"]
theorem sc_law_spoilt : FnScope n_law_spoilt ["hand", "words"] (defScope s_law_spoilt) := C8.fnScope_by (by decide +kernel)
abbrev s_law_signed : Stmt := top 51
abbrev n_law_signed : List Str := ["words", "at"]
theorem sc_law_signed : FnScope n_law_signed ["words", "at"] (defScope s_law_signed) := C8.fnScope_by (by decide +kernel)
abbrev s_law_read_plus : Stmt := top 52
abbrev n_law_read_plus : List Str := ["words", "at"]
theorem sc_law_read_plus : FnScope n_law_read_plus ["words", "at"] (defScope s_law_read_plus) := C8.fnScope_by (by decide +kernel)
abbrev s_law_read_plain : Stmt := top 53
abbrev n_law_read_plain : List Str := ["words", "at", "found"]
theorem sc_law_read_plain : FnScope n_law_read_plain ["words", "at"] (defScope s_law_read_plain) := C8.fnScope_by (by decide +kernel)
abbrev s_law_read : Stmt := top 54
abbrev n_law_read : List Str := ["words", "at", "index", "found"]
theorem sc_law_read : FnScope n_law_read ["words", "at"] (defScope s_law_read) := C8.fnScope_by (by decide +kernel)
abbrev s_law_same : Stmt := top 55
abbrev n_law_same : List Str := ["found", "expected", "at"]
theorem sc_law_same : FnScope n_law_same ["found", "expected"] (defScope s_law_same) := C8.fnScope_by (by decide +kernel)
abbrev s_law_many : Stmt := top 56
abbrev n_law_many : List Str := ["hand", "kind"]
theorem sc_law_many : FnScope n_law_many ["hand"] (defScope s_law_many) := C8.fnScope_by (by decide +kernel)
abbrev s_law_dressed : Stmt := top 57
abbrev n_law_dressed : List Str := ["hand", "condition", "pairs", "more", "words", "inner", "deepest", "part"]
theorem sc_law_dressed : FnScope n_law_dressed ["hand", "condition", "pairs", "more"] (defScope s_law_dressed) := C8.fnScope_by (by decide +kernel)
abbrev s_law_read_cmp : Stmt := top 58
abbrev n_law_read_cmp : List Str := ["words", "at", "left", "right"]
theorem sc_law_read_cmp : FnScope n_law_read_cmp ["words", "at"] (defScope s_law_read_cmp) := C8.fnScope_by (by decide +kernel)
abbrev s_law_read_not : Stmt := top 59
abbrev n_law_read_not : List Str := ["words", "at", "opened", "inner"]
theorem sc_law_read_not : FnScope n_law_read_not ["words", "at", "opened"] (defScope s_law_read_not) := C8.fnScope_by (by decide +kernel)
abbrev s_law_read_and : Stmt := top 60
abbrev n_law_read_and : List Str := ["words", "at", "opened", "parts", "step", "part"]
theorem sc_law_read_and : FnScope n_law_read_and ["words", "at", "opened"] (defScope s_law_read_and) := C8.fnScope_by (by decide +kernel)
abbrev s_law_read_or : Stmt := top 61
abbrev n_law_read_or : List Str := ["words", "at", "opened", "parts", "step", "part"]
theorem sc_law_read_or : FnScope n_law_read_or ["words", "at", "opened"] (defScope s_law_read_or) := C8.fnScope_by (by decide +kernel)
abbrev s_law_read_condition : Stmt := top 62
abbrev n_law_read_condition : List Str := ["words", "found"]
theorem sc_law_read_condition : FnScope n_law_read_condition ["words"] (defScope s_law_read_condition) := C8.fnScope_by (by decide +kernel)
abbrev s_law : Stmt := top 63
abbrev n_law : List Str := ["script", "hand", "condition", "text", "written", "plain", "due", "dressed", "at", "foreign", "words", "step", "chain", "nots"]
theorem sc_law : FnScope n_law ["script"] (defScope s_law) := C8.fnScope_by (by decide +kernel)
abbrev c_LONG_SIGNS : List V := [.str "<=", .str ">=", .str "==", .str "!="]
abbrev c_RESERVED : List V := [.str "input", .str "from", .str "to", .str "list", .str "def", .str "let", .str "if", .str "else", .str "end", .str "while", .str "at", .str "most", .str "check", .str "refuse", .str "answer", .str "return", .str "skip", .str "and", .str "or", .str "not", .str "row", .str "yes", .str "no", .str "turn", .str "fault", .str "when", .str "then"]
abbrev c_SIGNS : List V := [.str "<", .str "<=", .str ">", .str ">=", .str "==", .str "!="]
/-! ### what the top has made -/
structure Tx (w : World) (K : PySem.W.Frag) (mg : Str → Option Value) : Prop where
  d_split_row : DefOk K mg "split_row" s_split_row
  d_is_name : DefOk K mg "is_name" s_is_name
  d_is_number : DefOk K mg "is_number" s_is_number
  d_is_numeral : DefOk K mg "is_numeral" s_is_numeral
  d_word_at : DefOk K mg "word_at" s_word_at
  d_word_end : DefOk K mg "_word_end" s_word_end
  d_run_end : DefOk K mg "_run_end" s_run_end
  d_read_condition : DefOk K mg "read_condition" s_read_condition
  d_condition_of : DefOk K mg "condition_of" s_condition_of
  d_write_expression : DefOk K mg "write_expression" s_write_expression
  d_write_condition : DefOk K mg "write_condition" s_write_condition
  d_whole : DefOk K mg "_whole" s_whole
  d_take_signed : DefOk K mg "_take_signed" s_take_signed
  d_take_plus : DefOk K mg "_take_plus" s_take_plus
  d_take_plain : DefOk K mg "_take_plain" s_take_plain
  d_take_expression : DefOk K mg "_take_expression" s_take_expression
  d_take_comparison : DefOk K mg "_take_comparison" s_take_comparison
  d_take_joined : DefOk K mg "_take_joined" s_take_joined
  d_take_operand : DefOk K mg "_take_operand" s_take_operand
  d_write_plus : DefOk K mg "_write_plus" s_write_plus
  d_write_below : DefOk K mg "_write_below" s_write_below
  d_law_draws : DefOk K mg "_law_draws" s_law_draws
  d_law_take : DefOk K mg "_law_take" s_law_take
  d_law_letters : DefOk K mg "_law_letters" s_law_letters
  d_law_reserved : DefOk K mg "_law_reserved" s_law_reserved
  d_law_is_name : DefOk K mg "_law_is_name" s_law_is_name
  d_law_is_number : DefOk K mg "_law_is_number" s_law_is_number
  d_law_simple : DefOk K mg "_law_simple" s_law_simple
  d_law_tree : DefOk K mg "_law_tree" s_law_tree
  d_law_plus_words : DefOk K mg "_law_plus_words" s_law_plus_words
  d_law_words_of : DefOk K mg "_law_words_of" s_law_words_of
  d_law_plus_text : DefOk K mg "_law_plus_text" s_law_plus_text
  d_law_text : DefOk K mg "_law_text" s_law_text
  d_law_needs : DefOk K mg "_law_needs" s_law_needs
  d_law_condition_text : DefOk K mg "_law_condition_text" s_law_condition_text
  d_law_joins : DefOk K mg "_law_joins" s_law_joins
  d_law_spaced : DefOk K mg "_law_spaced" s_law_spaced
  d_law_spoilt : DefOk K mg "_law_spoilt" s_law_spoilt
  d_law_signed : DefOk K mg "_law_signed" s_law_signed
  d_law_read_plus : DefOk K mg "_law_read_plus" s_law_read_plus
  d_law_read_plain : DefOk K mg "_law_read_plain" s_law_read_plain
  d_law_read : DefOk K mg "_law_read" s_law_read
  d_law_same : DefOk K mg "_law_same" s_law_same
  d_law_many : DefOk K mg "_law_many" s_law_many
  d_law_dressed : DefOk K mg "_law_dressed" s_law_dressed
  d_law_read_cmp : DefOk K mg "_law_read_cmp" s_law_read_cmp
  d_law_read_not : DefOk K mg "_law_read_not" s_law_read_not
  d_law_read_and : DefOk K mg "_law_read_and" s_law_read_and
  d_law_read_or : DefOk K mg "_law_read_or" s_law_read_or
  d_law_read_condition : DefOk K mg "_law_read_condition" s_law_read_condition
  d_law : DefOk K mg "law" s_law
  g_LETTERS : ∃ u, mg "LETTERS" = some u ∧ RelV (.str "abcdefghijklmnopqrstuvwxyz") u
  g_DIGITS : ∃ u, mg "DIGITS" = some u ∧ RelV (.str "0123456789") u
  g_SHORT_SIGNS : ∃ u, mg "SHORT_SIGNS" = some u ∧ RelV (.str "<>=+-()[],:") u
  g_MOST_LETTERS : ∃ u, mg "MOST_LETTERS" = some u ∧ RelV (.int 12) u
  g_MOST_DIGITS : ∃ u, mg "MOST_DIGITS" = some u ∧ RelV (.int 10) u
  g_MOST_OPEN : ∃ u, mg "MOST_OPEN" = some u ∧ RelV (.int 8) u
  g_LONG_SIGNS : ∃ u, mg "LONG_SIGNS" = some u ∧ RelV (.ref (He.ga K "LONG_SIGNS")) u
  t_LONG_SIGNS : ∀ H, SqT K H (He.ga K "LONG_SIGNS") c_LONG_SIGNS
  g_RESERVED : ∃ u, mg "RESERVED" = some u ∧ RelV (.ref (He.ga K "RESERVED")) u
  t_RESERVED : ∀ H, SqT K H (He.ga K "RESERVED") c_RESERVED
  g_SIGNS : ∃ u, mg "SIGNS" = some u ∧ RelV (.ref (He.ga K "SIGNS")) u
  t_SIGNS : ∀ H, SqT K H (He.ga K "SIGNS") c_SIGNS
  g_PARENTHESES_BELOW : ∃ u, mg "PARENTHESES_BELOW" = some u ∧ RelV (.ref (He.ga K "PARENTHESES_BELOW")) u
  k_PARENTHESES_BELOW : ∃ es n, KDict K w (He.ga K "PARENTHESES_BELOW") es n
  v_PARENTHESES_BELOW_not : ∃ t, PySem.W.nsIn K (He.ga K "PARENTHESES_BELOW") "not" = some (some (.ref t)) ∧ ∀ H, SqT K H t [.str "and", .str "or"]
  v_PARENTHESES_BELOW_and : ∃ t, PySem.W.nsIn K (He.ga K "PARENTHESES_BELOW") "and" = some (some (.ref t)) ∧ ∀ H, SqT K H t [.str "and", .str "or"]
  v_PARENTHESES_BELOW_or : ∃ t, PySem.W.nsIn K (He.ga K "PARENTHESES_BELOW") "or" = some (some (.ref t)) ∧ ∀ H, SqT K H t [.str "or"]
  z_abs : mg "abs" = none
  z_bool : mg "bool" = none
  z_int : mg "int" = none
  z_isinstance : mg "isinstance" = none
  z_len : mg "len" = none
  z_list : mg "list" = none
  z_max : mg "max" = none
  z_range : mg "range" = none
  z_str : mg "str" = none
  z_tuple : mg "tuple" = none
/-! ### the head -/
def fn : List He.DefD := [⟨("split_row", none), "split_row", "split_row", defArgs s_split_row, defBody s_split_row, defScope s_split_row, [], []⟩, ⟨("is_name", none), "is_name", "is_name", defArgs s_is_name, defBody s_is_name, defScope s_is_name, [], []⟩, ⟨("is_number", none), "is_number", "is_number", defArgs s_is_number, defBody s_is_number, defScope s_is_number, [], []⟩, ⟨("is_numeral", none), "is_numeral", "is_numeral", defArgs s_is_numeral, defBody s_is_numeral, defScope s_is_numeral, [], []⟩, ⟨("word_at", none), "word_at", "word_at", defArgs s_word_at, defBody s_word_at, defScope s_word_at, [], []⟩, ⟨("_word_end", none), "_word_end", "_word_end", defArgs s_word_end, defBody s_word_end, defScope s_word_end, [], []⟩, ⟨("_run_end", none), "_run_end", "_run_end", defArgs s_run_end, defBody s_run_end, defScope s_run_end, [], []⟩, ⟨("read_condition", none), "read_condition", "read_condition", defArgs s_read_condition, defBody s_read_condition, defScope s_read_condition, [], []⟩, ⟨("condition_of", none), "condition_of", "condition_of", defArgs s_condition_of, defBody s_condition_of, defScope s_condition_of, [], []⟩, ⟨("write_expression", none), "write_expression", "write_expression", defArgs s_write_expression, defBody s_write_expression, defScope s_write_expression, [], []⟩, ⟨("write_condition", none), "write_condition", "write_condition", defArgs s_write_condition, defBody s_write_condition, defScope s_write_condition, [], []⟩, ⟨("_whole", none), "_whole", "_whole", defArgs s_whole, defBody s_whole, defScope s_whole, [], []⟩, ⟨("_take_signed", none), "_take_signed", "_take_signed", defArgs s_take_signed, defBody s_take_signed, defScope s_take_signed, [], []⟩, ⟨("_take_plus", none), "_take_plus", "_take_plus", defArgs s_take_plus, defBody s_take_plus, defScope s_take_plus, [], []⟩, ⟨("_take_plain", none), "_take_plain", "_take_plain", defArgs s_take_plain, defBody s_take_plain, defScope s_take_plain, [], []⟩, ⟨("_take_expression", none), "_take_expression", "_take_expression", defArgs s_take_expression, defBody s_take_expression, defScope s_take_expression, [], []⟩, ⟨("_take_comparison", none), "_take_comparison", "_take_comparison", defArgs s_take_comparison, defBody s_take_comparison, defScope s_take_comparison, [], []⟩, ⟨("_take_joined", none), "_take_joined", "_take_joined", defArgs s_take_joined, defBody s_take_joined, defScope s_take_joined, [], []⟩, ⟨("_take_operand", none), "_take_operand", "_take_operand", defArgs s_take_operand, defBody s_take_operand, defScope s_take_operand, [], []⟩, ⟨("_write_plus", none), "_write_plus", "_write_plus", defArgs s_write_plus, defBody s_write_plus, defScope s_write_plus, [], []⟩, ⟨("_write_below", none), "_write_below", "_write_below", defArgs s_write_below, defBody s_write_below, defScope s_write_below, [], []⟩, ⟨("_law_draws", none), "_law_draws", "_law_draws", defArgs s_law_draws, defBody s_law_draws, defScope s_law_draws, [], []⟩, ⟨("_law_take", none), "_law_take", "_law_take", defArgs s_law_take, defBody s_law_take, defScope s_law_take, [], []⟩, ⟨("_law_letters", none), "_law_letters", "_law_letters", defArgs s_law_letters, defBody s_law_letters, defScope s_law_letters, [], []⟩, ⟨("_law_reserved", none), "_law_reserved", "_law_reserved", defArgs s_law_reserved, defBody s_law_reserved, defScope s_law_reserved, [], []⟩, ⟨("_law_is_name", none), "_law_is_name", "_law_is_name", defArgs s_law_is_name, defBody s_law_is_name, defScope s_law_is_name, [], []⟩, ⟨("_law_is_number", none), "_law_is_number", "_law_is_number", defArgs s_law_is_number, defBody s_law_is_number, defScope s_law_is_number, [], []⟩, ⟨("_law_simple", none), "_law_simple", "_law_simple", defArgs s_law_simple, defBody s_law_simple, defScope s_law_simple, [], []⟩, ⟨("_law_tree", none), "_law_tree", "_law_tree", defArgs s_law_tree, defBody s_law_tree, defScope s_law_tree, [], []⟩, ⟨("_law_plus_words", none), "_law_plus_words", "_law_plus_words", defArgs s_law_plus_words, defBody s_law_plus_words, defScope s_law_plus_words, [], []⟩, ⟨("_law_words_of", none), "_law_words_of", "_law_words_of", defArgs s_law_words_of, defBody s_law_words_of, defScope s_law_words_of, [], []⟩, ⟨("_law_plus_text", none), "_law_plus_text", "_law_plus_text", defArgs s_law_plus_text, defBody s_law_plus_text, defScope s_law_plus_text, [], []⟩, ⟨("_law_text", none), "_law_text", "_law_text", defArgs s_law_text, defBody s_law_text, defScope s_law_text, [], []⟩, ⟨("_law_needs", none), "_law_needs", "_law_needs", defArgs s_law_needs, defBody s_law_needs, defScope s_law_needs, [], []⟩, ⟨("_law_condition_text", none), "_law_condition_text", "_law_condition_text", defArgs s_law_condition_text, defBody s_law_condition_text, defScope s_law_condition_text, [], []⟩, ⟨("_law_joins", none), "_law_joins", "_law_joins", defArgs s_law_joins, defBody s_law_joins, defScope s_law_joins, [], []⟩, ⟨("_law_spaced", none), "_law_spaced", "_law_spaced", defArgs s_law_spaced, defBody s_law_spaced, defScope s_law_spaced, [], []⟩, ⟨("_law_spoilt", none), "_law_spoilt", "_law_spoilt", defArgs s_law_spoilt, defBody s_law_spoilt, defScope s_law_spoilt, [], []⟩, ⟨("_law_signed", none), "_law_signed", "_law_signed", defArgs s_law_signed, defBody s_law_signed, defScope s_law_signed, [], []⟩, ⟨("_law_read_plus", none), "_law_read_plus", "_law_read_plus", defArgs s_law_read_plus, defBody s_law_read_plus, defScope s_law_read_plus, [], []⟩, ⟨("_law_read_plain", none), "_law_read_plain", "_law_read_plain", defArgs s_law_read_plain, defBody s_law_read_plain, defScope s_law_read_plain, [], []⟩, ⟨("_law_read", none), "_law_read", "_law_read", defArgs s_law_read, defBody s_law_read, defScope s_law_read, [], []⟩, ⟨("_law_same", none), "_law_same", "_law_same", defArgs s_law_same, defBody s_law_same, defScope s_law_same, [], []⟩, ⟨("_law_many", none), "_law_many", "_law_many", defArgs s_law_many, defBody s_law_many, defScope s_law_many, [], []⟩, ⟨("_law_dressed", none), "_law_dressed", "_law_dressed", defArgs s_law_dressed, defBody s_law_dressed, defScope s_law_dressed, [], []⟩, ⟨("_law_read_cmp", none), "_law_read_cmp", "_law_read_cmp", defArgs s_law_read_cmp, defBody s_law_read_cmp, defScope s_law_read_cmp, [], []⟩, ⟨("_law_read_not", none), "_law_read_not", "_law_read_not", defArgs s_law_read_not, defBody s_law_read_not, defScope s_law_read_not, [], []⟩, ⟨("_law_read_and", none), "_law_read_and", "_law_read_and", defArgs s_law_read_and, defBody s_law_read_and, defScope s_law_read_and, [], []⟩, ⟨("_law_read_or", none), "_law_read_or", "_law_read_or", defArgs s_law_read_or, defBody s_law_read_or, defScope s_law_read_or, [], []⟩, ⟨("_law_read_condition", none), "_law_read_condition", "_law_read_condition", defArgs s_law_read_condition, defBody s_law_read_condition, defScope s_law_read_condition, [], []⟩, ⟨("law", none), "law", "law", defArgs s_law, defBody s_law, defScope s_law, [], []⟩]
def fa : List He.Fa := [.glo "split_row", .glo "is_name", .glo "is_number", .glo "is_numeral", .glo "word_at", .glo "_word_end", .glo "_run_end", .glo "read_condition", .glo "condition_of", .glo "write_expression", .glo "write_condition", .glo "_whole", .glo "_take_signed", .glo "_take_plus", .glo "_take_plain", .glo "_take_expression", .glo "_take_comparison", .glo "_take_joined", .glo "_take_operand", .glo "_write_plus", .glo "_write_below", .glo "_law_draws", .glo "_law_take", .glo "_law_letters", .glo "_law_reserved", .glo "_law_is_name", .glo "_law_is_number", .glo "_law_simple", .glo "_law_tree", .glo "_law_plus_words", .glo "_law_words_of", .glo "_law_plus_text", .glo "_law_text", .glo "_law_needs", .glo "_law_condition_text", .glo "_law_joins", .glo "_law_spaced", .glo "_law_spoilt", .glo "_law_signed", .glo "_law_read_plus", .glo "_law_read_plain", .glo "_law_read", .glo "_law_same", .glo "_law_many", .glo "_law_dressed", .glo "_law_read_cmp", .glo "_law_read_not", .glo "_law_read_and", .glo "_law_read_or", .glo "_law_read_condition", .glo "law", .str "LETTERS" "abcdefghijklmnopqrstuvwxyz", .str "DIGITS" "0123456789", .str "SHORT_SIGNS" "<>=+-()[],:", .int "MOST_LETTERS" 12, .int "MOST_DIGITS" 10, .int "MOST_OPEN" 8, .glo "LONG_SIGNS", .glo "RESERVED", .glo "SIGNS", .glo "PARENTHESES_BELOW", .free "abs", .free "bool", .free "int", .free "isinstance", .free "len", .free "list", .free "max", .free "range", .free "str", .free "tuple"]
def ts : List He.Tab := [(fun K => He.ga K "PARENTHESES_BELOW", ["not", "and", "or"])]
def ex (K : PySem.W.Frag) : Bool := He.tupB K "LONG_SIGNS" [.str "<=", .str ">=", .str "==", .str "!="] && He.tupB K "RESERVED" [.str "input", .str "from", .str "to", .str "list", .str "def", .str "let", .str "if", .str "else", .str "end", .str "while", .str "at", .str "most", .str "check", .str "refuse", .str "answer", .str "return", .str "skip", .str "and", .str "or", .str "not", .str "row", .str "yes", .str "no", .str "turn", .str "fault", .str "when", .str "then"] && He.tupB K "SIGNS" [.str "<", .str "<=", .str ">", .str ">=", .str "==", .str "!="] && W6.keyB K (He.ga K "PARENTHESES_BELOW") "not" [.str "and", .str "or"] && W6.keyB K (He.ga K "PARENTHESES_BELOW") "and" [.str "and", .str "or"] && W6.keyB K (He.ga K "PARENTHESES_BELOW") "or" [.str "or"]
abbrev R : PySem.W.OpenRow := PySem.W.OpenLaw.row PySem.Challenge.rw_wayorring_k03_conditions_read_back
abbrev hk : PySem.W.Hook := He.hookX 4 fa fn ts [] ex
def ob (s : PySem.W.SharedT) : He.AlX := He.obsX 4 fa fn ts [] ex (HandSHeadRun.getT s)
theorem ob_eq (s : PySem.W.SharedT) : ob s = hk.obs s.abs := He.obsX_eq (HandSHeadRun.getT_eq s)
def loose : List Str := (["LETTERS", "DIGITS", "LONG_SIGNS", "SHORT_SIGNS", "RESERVED", "MOST_LETTERS", "MOST_DIGITS", "split_row", "is_name", "is_number", "is_numeral", "word_at", "_word_end", "_run_end", "SIGNS", "MOST_OPEN", "PARENTHESES_BELOW", "read_condition", "condition_of", "write_expression", "write_condition", "_whole", "_take_signed", "_take_plus", "_take_plain", "_take_expression", "_take_comparison", "_take_joined", "_take_operand", "_write_plus"] : List Str) ++ (["_write_below", "_law_draws", "_law_take", "_law_letters", "_law_reserved", "_law_is_name", "_law_is_number", "_law_simple", "_law_tree", "_law_plus_words", "_law_words_of", "_law_plus_text", "_law_text", "_law_needs", "_law_condition_text", "_law_joins", "_law_spaced", "_law_spoilt", "_law_signed", "_law_read_plus", "_law_read_plain", "_law_read", "_law_same", "_law_many", "_law_dressed", "_law_read_cmp", "_law_read_not", "_law_read_and", "_law_read_or", "_law_read_condition"] : List Str)
set_option maxHeartbeats 0 in
theorem run (w : World) : HandSHeadRun.RunEq R (PySem.W.view R.prog [63]) hk ob 20000 loose w :=
  PySem.W.byRow2 "special-get-raises" (P := fun w => HandSHeadRun.RunEq R (PySem.W.view R.prog [63]) hk ob 20000 loose w) (fun w os => by kernel_rfl) (fun w os => by kernel_rfl) w
theorem tx_of {w : World} {K : PySem.W.Frag} {h h2 : Heap} {mg : Str → Option Value} (X : K.In h) (G : h.Ns mainGlobals mg) (c2 : He.SaysX fa fn ts [] ex w h2 K) : Tx w K mg := by
  have c := c2.t.d
  have m : ex K = true := c2.more
  unfold ex at m
  obtain ⟨l5, m5⟩ := He.ba m
  obtain ⟨l4, m4⟩ := He.ba l5
  obtain ⟨l3, m3⟩ := He.ba l4
  obtain ⟨l2, m2⟩ := He.ba l3
  obtain ⟨l1, m1⟩ := He.ba l2
  refine ⟨?_, ?_, ?_, ?_, ?_, ?_, ?_, ?_, ?_, ?_, ?_, ?_, ?_, ?_, ?_, ?_, ?_, ?_, ?_, ?_, ?_, ?_, ?_, ?_, ?_, ?_, ?_, ?_, ?_, ?_, ?_, ?_, ?_, ?_, ?_, ?_, ?_, ?_, ?_, ?_, ?_, ?_, ?_, ?_, ?_, ?_, ?_, ?_, ?_, ?_, ?_, ?_, ?_, ?_, ?_, ?_, ?_, ?_, ?_, ?_, ?_, ?_, ?_, ?_, ?_, ?_, ?_, ?_, ?_, ?_, ?_, ?_, ?_, ?_, ?_, ?_, ?_, ?_⟩
  · obtain ⟨fd, F⟩ := c.def_ 0 rfl
    exact ⟨_, fd, F, He.glo_ok X G (c.fact 0 (f := .glo "split_row") rfl)⟩
  · obtain ⟨fd, F⟩ := c.def_ 1 rfl
    exact ⟨_, fd, F, He.glo_ok X G (c.fact 1 (f := .glo "is_name") rfl)⟩
  · obtain ⟨fd, F⟩ := c.def_ 2 rfl
    exact ⟨_, fd, F, He.glo_ok X G (c.fact 2 (f := .glo "is_number") rfl)⟩
  · obtain ⟨fd, F⟩ := c.def_ 3 rfl
    exact ⟨_, fd, F, He.glo_ok X G (c.fact 3 (f := .glo "is_numeral") rfl)⟩
  · obtain ⟨fd, F⟩ := c.def_ 4 rfl
    exact ⟨_, fd, F, He.glo_ok X G (c.fact 4 (f := .glo "word_at") rfl)⟩
  · obtain ⟨fd, F⟩ := c.def_ 5 rfl
    exact ⟨_, fd, F, He.glo_ok X G (c.fact 5 (f := .glo "_word_end") rfl)⟩
  · obtain ⟨fd, F⟩ := c.def_ 6 rfl
    exact ⟨_, fd, F, He.glo_ok X G (c.fact 6 (f := .glo "_run_end") rfl)⟩
  · obtain ⟨fd, F⟩ := c.def_ 7 rfl
    exact ⟨_, fd, F, He.glo_ok X G (c.fact 7 (f := .glo "read_condition") rfl)⟩
  · obtain ⟨fd, F⟩ := c.def_ 8 rfl
    exact ⟨_, fd, F, He.glo_ok X G (c.fact 8 (f := .glo "condition_of") rfl)⟩
  · obtain ⟨fd, F⟩ := c.def_ 9 rfl
    exact ⟨_, fd, F, He.glo_ok X G (c.fact 9 (f := .glo "write_expression") rfl)⟩
  · obtain ⟨fd, F⟩ := c.def_ 10 rfl
    exact ⟨_, fd, F, He.glo_ok X G (c.fact 10 (f := .glo "write_condition") rfl)⟩
  · obtain ⟨fd, F⟩ := c.def_ 11 rfl
    exact ⟨_, fd, F, He.glo_ok X G (c.fact 11 (f := .glo "_whole") rfl)⟩
  · obtain ⟨fd, F⟩ := c.def_ 12 rfl
    exact ⟨_, fd, F, He.glo_ok X G (c.fact 12 (f := .glo "_take_signed") rfl)⟩
  · obtain ⟨fd, F⟩ := c.def_ 13 rfl
    exact ⟨_, fd, F, He.glo_ok X G (c.fact 13 (f := .glo "_take_plus") rfl)⟩
  · obtain ⟨fd, F⟩ := c.def_ 14 rfl
    exact ⟨_, fd, F, He.glo_ok X G (c.fact 14 (f := .glo "_take_plain") rfl)⟩
  · obtain ⟨fd, F⟩ := c.def_ 15 rfl
    exact ⟨_, fd, F, He.glo_ok X G (c.fact 15 (f := .glo "_take_expression") rfl)⟩
  · obtain ⟨fd, F⟩ := c.def_ 16 rfl
    exact ⟨_, fd, F, He.glo_ok X G (c.fact 16 (f := .glo "_take_comparison") rfl)⟩
  · obtain ⟨fd, F⟩ := c.def_ 17 rfl
    exact ⟨_, fd, F, He.glo_ok X G (c.fact 17 (f := .glo "_take_joined") rfl)⟩
  · obtain ⟨fd, F⟩ := c.def_ 18 rfl
    exact ⟨_, fd, F, He.glo_ok X G (c.fact 18 (f := .glo "_take_operand") rfl)⟩
  · obtain ⟨fd, F⟩ := c.def_ 19 rfl
    exact ⟨_, fd, F, He.glo_ok X G (c.fact 19 (f := .glo "_write_plus") rfl)⟩
  · obtain ⟨fd, F⟩ := c.def_ 20 rfl
    exact ⟨_, fd, F, He.glo_ok X G (c.fact 20 (f := .glo "_write_below") rfl)⟩
  · obtain ⟨fd, F⟩ := c.def_ 21 rfl
    exact ⟨_, fd, F, He.glo_ok X G (c.fact 21 (f := .glo "_law_draws") rfl)⟩
  · obtain ⟨fd, F⟩ := c.def_ 22 rfl
    exact ⟨_, fd, F, He.glo_ok X G (c.fact 22 (f := .glo "_law_take") rfl)⟩
  · obtain ⟨fd, F⟩ := c.def_ 23 rfl
    exact ⟨_, fd, F, He.glo_ok X G (c.fact 23 (f := .glo "_law_letters") rfl)⟩
  · obtain ⟨fd, F⟩ := c.def_ 24 rfl
    exact ⟨_, fd, F, He.glo_ok X G (c.fact 24 (f := .glo "_law_reserved") rfl)⟩
  · obtain ⟨fd, F⟩ := c.def_ 25 rfl
    exact ⟨_, fd, F, He.glo_ok X G (c.fact 25 (f := .glo "_law_is_name") rfl)⟩
  · obtain ⟨fd, F⟩ := c.def_ 26 rfl
    exact ⟨_, fd, F, He.glo_ok X G (c.fact 26 (f := .glo "_law_is_number") rfl)⟩
  · obtain ⟨fd, F⟩ := c.def_ 27 rfl
    exact ⟨_, fd, F, He.glo_ok X G (c.fact 27 (f := .glo "_law_simple") rfl)⟩
  · obtain ⟨fd, F⟩ := c.def_ 28 rfl
    exact ⟨_, fd, F, He.glo_ok X G (c.fact 28 (f := .glo "_law_tree") rfl)⟩
  · obtain ⟨fd, F⟩ := c.def_ 29 rfl
    exact ⟨_, fd, F, He.glo_ok X G (c.fact 29 (f := .glo "_law_plus_words") rfl)⟩
  · obtain ⟨fd, F⟩ := c.def_ 30 rfl
    exact ⟨_, fd, F, He.glo_ok X G (c.fact 30 (f := .glo "_law_words_of") rfl)⟩
  · obtain ⟨fd, F⟩ := c.def_ 31 rfl
    exact ⟨_, fd, F, He.glo_ok X G (c.fact 31 (f := .glo "_law_plus_text") rfl)⟩
  · obtain ⟨fd, F⟩ := c.def_ 32 rfl
    exact ⟨_, fd, F, He.glo_ok X G (c.fact 32 (f := .glo "_law_text") rfl)⟩
  · obtain ⟨fd, F⟩ := c.def_ 33 rfl
    exact ⟨_, fd, F, He.glo_ok X G (c.fact 33 (f := .glo "_law_needs") rfl)⟩
  · obtain ⟨fd, F⟩ := c.def_ 34 rfl
    exact ⟨_, fd, F, He.glo_ok X G (c.fact 34 (f := .glo "_law_condition_text") rfl)⟩
  · obtain ⟨fd, F⟩ := c.def_ 35 rfl
    exact ⟨_, fd, F, He.glo_ok X G (c.fact 35 (f := .glo "_law_joins") rfl)⟩
  · obtain ⟨fd, F⟩ := c.def_ 36 rfl
    exact ⟨_, fd, F, He.glo_ok X G (c.fact 36 (f := .glo "_law_spaced") rfl)⟩
  · obtain ⟨fd, F⟩ := c.def_ 37 rfl
    exact ⟨_, fd, F, He.glo_ok X G (c.fact 37 (f := .glo "_law_spoilt") rfl)⟩
  · obtain ⟨fd, F⟩ := c.def_ 38 rfl
    exact ⟨_, fd, F, He.glo_ok X G (c.fact 38 (f := .glo "_law_signed") rfl)⟩
  · obtain ⟨fd, F⟩ := c.def_ 39 rfl
    exact ⟨_, fd, F, He.glo_ok X G (c.fact 39 (f := .glo "_law_read_plus") rfl)⟩
  · obtain ⟨fd, F⟩ := c.def_ 40 rfl
    exact ⟨_, fd, F, He.glo_ok X G (c.fact 40 (f := .glo "_law_read_plain") rfl)⟩
  · obtain ⟨fd, F⟩ := c.def_ 41 rfl
    exact ⟨_, fd, F, He.glo_ok X G (c.fact 41 (f := .glo "_law_read") rfl)⟩
  · obtain ⟨fd, F⟩ := c.def_ 42 rfl
    exact ⟨_, fd, F, He.glo_ok X G (c.fact 42 (f := .glo "_law_same") rfl)⟩
  · obtain ⟨fd, F⟩ := c.def_ 43 rfl
    exact ⟨_, fd, F, He.glo_ok X G (c.fact 43 (f := .glo "_law_many") rfl)⟩
  · obtain ⟨fd, F⟩ := c.def_ 44 rfl
    exact ⟨_, fd, F, He.glo_ok X G (c.fact 44 (f := .glo "_law_dressed") rfl)⟩
  · obtain ⟨fd, F⟩ := c.def_ 45 rfl
    exact ⟨_, fd, F, He.glo_ok X G (c.fact 45 (f := .glo "_law_read_cmp") rfl)⟩
  · obtain ⟨fd, F⟩ := c.def_ 46 rfl
    exact ⟨_, fd, F, He.glo_ok X G (c.fact 46 (f := .glo "_law_read_not") rfl)⟩
  · obtain ⟨fd, F⟩ := c.def_ 47 rfl
    exact ⟨_, fd, F, He.glo_ok X G (c.fact 47 (f := .glo "_law_read_and") rfl)⟩
  · obtain ⟨fd, F⟩ := c.def_ 48 rfl
    exact ⟨_, fd, F, He.glo_ok X G (c.fact 48 (f := .glo "_law_read_or") rfl)⟩
  · obtain ⟨fd, F⟩ := c.def_ 49 rfl
    exact ⟨_, fd, F, He.glo_ok X G (c.fact 49 (f := .glo "_law_read_condition") rfl)⟩
  · obtain ⟨fd, F⟩ := c.def_ 50 rfl
    exact ⟨_, fd, F, He.glo_ok X G (c.fact 50 (f := .glo "law") rfl)⟩
  · obtain ⟨t, e⟩ := He.str_ok X G (c.fact 51 (f := .str "LETTERS" "abcdefghijklmnopqrstuvwxyz") rfl)
    exact ⟨_, e, t, rfl⟩
  · obtain ⟨t, e⟩ := He.str_ok X G (c.fact 52 (f := .str "DIGITS" "0123456789") rfl)
    exact ⟨_, e, t, rfl⟩
  · obtain ⟨t, e⟩ := He.str_ok X G (c.fact 53 (f := .str "SHORT_SIGNS" "<>=+-()[],:") rfl)
    exact ⟨_, e, t, rfl⟩
  · obtain ⟨t, e⟩ := He.int_ok X G (c.fact 54 (f := .int "MOST_LETTERS" 12) rfl)
    exact ⟨_, e, t, rfl⟩
  · obtain ⟨t, e⟩ := He.int_ok X G (c.fact 55 (f := .int "MOST_DIGITS" 10) rfl)
    exact ⟨_, e, t, rfl⟩
  · obtain ⟨t, e⟩ := He.int_ok X G (c.fact 56 (f := .int "MOST_OPEN" 8) rfl)
    exact ⟨_, e, t, rfl⟩
  · exact ⟨_, He.glo_ok X G (c.fact 57 (f := .glo "LONG_SIGNS") rfl), rfl⟩
  · exact He.tupB_ok l1
  · exact ⟨_, He.glo_ok X G (c.fact 58 (f := .glo "RESERVED") rfl), rfl⟩
  · exact He.tupB_ok m1
  · exact ⟨_, He.glo_ok X G (c.fact 59 (f := .glo "SIGNS") rfl), rfl⟩
  · exact He.tupB_ok m2
  · exact ⟨_, He.glo_ok X G (c.fact 60 (f := .glo "PARENTHESES_BELOW") rfl), rfl⟩
  · exact c2.t.tab 0 rfl
  · exact W6.keyB_ok m3
  · exact W6.keyB_ok m4
  · exact W6.keyB_ok m5
  · exact He.free_ok X G (c.fact 61 (f := .free "abs") rfl)
  · exact He.free_ok X G (c.fact 62 (f := .free "bool") rfl)
  · exact He.free_ok X G (c.fact 63 (f := .free "int") rfl)
  · exact He.free_ok X G (c.fact 64 (f := .free "isinstance") rfl)
  · exact He.free_ok X G (c.fact 65 (f := .free "len") rfl)
  · exact He.free_ok X G (c.fact 66 (f := .free "list") rfl)
  · exact He.free_ok X G (c.fact 67 (f := .free "max") rfl)
  · exact He.free_ok X G (c.fact 68 (f := .free "range") rfl)
  · exact He.free_ok X G (c.fact 69 (f := .free "str") rfl)
  · exact He.free_ok X G (c.fact 70 (f := .free "tuple") rfl)
def spLaw (K : PySem.W.Frag) : Sp := fun vs H Q _ => ∃ (a : Addr) (ns : List Int), vs = [.ref a] ∧ SqL K H a (ns.map V.int) ∧ ns.length ≤ 63 ∧ ∀ H', Q (.bl true) H'
end K03
namespace K03
open PySem PySem.Spec PyProof.Rows L2 Wy WM

section
variable {P : Program} {w : World} {K : PySem.W.Frag} {mg : Str → Option Value} {base : Heap}
theorem k_law_take (T : Tx w K mg) : C8.Cal P w K mg base 1 "_law_take" spTake [] := by
  refine cal_of (N := n_law_take) T.d_law_take sc_law_take (fun _ _ F => F.bindsN fun _ _ _ _ _ _ us hl => match us, hl with | [_, _], _ => rfl) (fun vs H Q E h => ?_) (fun f cdv A outer s H vs Q E hr h => ?_)
  · obtain ⟨a, d, m, rfl, _⟩ := h
    rfl
  · obtain ⟨a, d, m, rfl, hh, hm, q⟩ := h
    have nd := hh.ne
    obtain ⟨n, ds, h1, h2, h3⟩ := hh
    refine ⟨_, (pss_cons (ps_asg (pe_ix (ix_seq : IxR _ (rIx K)) (pv 0) pe_int (fun _ _ => rfl)) (pg_name (i := 2) sc_law_take.nd rfl (Or.inl rfl))) (pss_cons (ps_asg (pe_op op_add3 (pv 2) pe_int) (pg_sub (pv 0) pe_int set_list)) (pss_cons (ps_asg (pe_ix (ix_seq : IxR _ (rIx K)) (pv 0) pe_int (fun _ _ => rfl)) (pg_name (i := 3) sc_law_take.nd rfl (Or.inl rfl))) (pss_cons (ps_if (pt_cmpR op_ge (pv 2) (pe_callB (call_len2 : CallR _ _ (rLn K)) (by rfl) T.z_len (by decide +kernel) (pa_cons (pv 3) pa_nil)) (nomark _)) (pss_one (ps_ret pe_int)) pss_nil) (pss_one (ps_ret (pe_op op_mod (pe_op op_fdiv (pe_callTy call_int2 (by rfl) T.z_int (by decide +kernel) (pa_cons (pe_ix (ix_seq : IxR _ (rIx K)) (pv 3) (pv 2) (fun _ _ => rfl)) pa_nil)) pe_int) (pv 1)))))))), ?_⟩
    walk_at "ss"
    refine o_ixL (lst_of h1) (atI_nat (j := 1) rfl) ?_
    walk_at "ss"
    refine st_L h1 (j := 1) rfl fun H2 c2 e2 => ?_
    have h3' := c2.at h3 nd
    walk_at "ss"
    refine o_ixL (lst_of e2) (atI_nat (j := 0) rfl) ?_
    walk_at "ss"
    refine b_lenL (lst_of h3') ?_
    walk_at "ss"
    refine ite2 (fun e => ?_) (fun e => ?_)
    · walk_at "ss"
      exact q 0 H2 (Int.le_refl 0) hm c2 ⟨n + 1, ds, e2, by omega, h3'⟩
    · have e := of_decide_eq_false (Bool.eq_false_iff.mpr e)
      rw [List.length_map] at e
      have g : (ds.map V.int)[n.toNat]? = some (.int ds[n.toNat]) := by
        rw [List.getElem?_map, List.getElem?_eq_getElem (by omega)]
        rfl
      walk_at "ss"
      refine o_ixL (lst_of h3') (atI_of (j := n.toNat) (by omega) g) ?_
      walk_at "ss"
      exact q _ H2 (Int.emod_nonneg _ (by omega)) (Int.emod_lt_of_pos _ hm) c2 ⟨n + 1, ds, e2, by omega, h3'⟩
def spDraws (K : PySem.W.Frag) : Sp := fun vs H Q _ => ∃ (a : Addr) (ns : List Int) (m : Int), vs = [.ref a, .int m] ∧ SqL K H a (ns.map V.int) ∧ ns.length ≤ 63 ∧ 0 ≤ m ∧ m ≤ 10000 ∧ ∀ p H' ds, Same H H' → H p = none → H' p = some (.lst ((ds : List Int).map V.int)) → Q (.ref p) H'
theorem k_law_draws (T : Tx w K mg) : C8.Cal P w K mg base 1 "_law_draws" (spDraws K) [] := by
  refine cal_of (N := n_law_draws) T.d_law_draws sc_law_draws (fun _ _ F => F.bindsN fun _ _ _ _ _ _ us hl => match us, hl with | [_, _], _ => rfl) (fun vs H Q E h => ?_) (fun f cdv A outer s H vs Q E hr h => ?_)
  · obtain ⟨a, ns, m, rfl, _⟩ := h
    rfl
  · obtain ⟨a, ns, m, rfl, hS, hl, h0, hm, q⟩ := h
    refine ⟨_, (pss_cons (ps_setLc (i := 3) (own := [("cell", 2)]) (g := gName 2) (by rfl) sc_law_draws.nd rfl rfl (sw_true rfl rfl rfl (by decide +kernel)) (pi_list (pv 0) : PI _ _ _ (iList K _)) (blkOk_by (own := [("cell", 2)]) (N := n_law_draws) (sc := defScope s_law_draws) (by decide +kernel)) (fun _ _ _ _ _ => pg_name (i := 2) sc_law_draws.nd rfl (Or.inl rfl)) (fun _ _ _ _ _ => pts_nil) (fun _ _ _ _ _ => (pe_callB call_abs2 (by rfl) T.z_abs (by decide +kernel) (pa_cons (pe_callTy call_int2 (by rfl) T.z_int (by decide +kernel) (pa_cons (pv 2) pa_nil)) pa_nil)))) (pss_cons (ps_asg (pe_lst pa_nil) (pg_name (i := 4) sc_law_draws.nd rfl (Or.inl rfl))) (pss_cons (ps_for PassesOwn.never rfl (pi_range1 (by rfl) T.z_range (pa_cons (pv 1) pa_nil)) (pg_name (i := 5) sc_law_draws.nd rfl (Or.inl rfl)) (pss_cons (ps_asg (pv 5) (pg_name (i := 2) sc_law_draws.nd rfl (Or.inl rfl))) (C8.pss_cut (ps_if (pt_cmpR op_gt (pe_callB (call_len2 : CallR _ _ (rLn K)) (by rfl) T.z_len (by decide +kernel) (pa_cons (pv 0) pa_nil)) pe_int (nomark _)) (pss_cons (ps_asg (pe_op op_mod (pv 5) (pe_callB (call_len2 : CallR _ _ (rLn K)) (by rfl) T.z_len (by decide +kernel) (pa_cons (pv 0) pa_nil))) (pg_name (i := 6) sc_law_draws.nd rfl (Or.inl rfl))) (pss_cons (ps_asg (pe_callTy call_int2 (by rfl) T.z_int (by decide +kernel) (pa_cons (pe_ix (ix_seq : IxR _ (rIx K)) (pv 0) (pv 6) (fun _ _ => rfl)) pa_nil)) (pg_name (i := 2) sc_law_draws.nd rfl (Or.inl rfl))) (pss_one (ps_if (PW.pt (pw_and (pt_cmpR op_ge (pv 2) (pe_op op_pow pe_int pe_int) (nomark _)) (pw_and1 (pt_cmpR op_gt (pe_ix (ix_seq : IxR _ (rIx K)) (pv 3) (pv 6) (fun _ _ => rfl)) pe_int (nomark _))))) (pss_cons (ps_expr (pe_bm PySem.F.plainAttrs_list PySem.F.slot_list_append PySem.F.type_list_append mt_append (pv 4) (pa_cons (pe_op op_mod (pe_callTy call_int2 (by rfl) T.z_int (by decide +kernel) (pa_cons (pe_ix (ix_seq : IxR _ (rIx K)) (pv 3) (pv 6) (fun _ _ => rfl)) pa_nil)) pe_int) pa_nil) : PE _ _ (tBM K _ _ _ _))) (pss_cons (ps_asg (pe_op op_fdiv (pe_callTy call_int2 (by rfl) T.z_int (by decide +kernel) (pa_cons (pe_ix (ix_seq : IxR _ (rIx K)) (pv 3) (pv 6) (fun _ _ => rfl)) pa_nil)) pe_int) (pg_sub (pv 3) (pv 6) set_list)) (pss_one ps_continue))) pss_nil)))) pss_nil) (pss_cons (ps_asg (pe_op op_mod (pe_callTy call_int2 (by rfl) T.z_int (by decide +kernel) (pa_cons (pe_op op_add3 (pe_op op_add3 (pe_op op_mul2 (pv 2) pe_int) (pe_op op_mul2 (pv 5) pe_int)) pe_int) pa_nil)) pe_int) (pg_name (i := 7) sc_law_draws.nd rfl (Or.inl rfl))) (pss_cons (ps_asg (pe_op op_mod (pe_callTy call_int2 (by rfl) T.z_int (by decide +kernel) (pa_cons (pe_op op_add3 (pe_op op_fdiv (pe_op op_mul2 (pv 7) (pv 7)) pe_int) (pv 7)) pa_nil)) pe_int) (pg_name (i := 7) sc_law_draws.nd rfl (Or.inl rfl))) (pss_one (ps_expr (pe_bm PySem.F.plainAttrs_list PySem.F.slot_list_append PySem.F.type_list_append mt_append (pv 4) (pa_cons (pe_op op_mod (pe_callTy call_int2 (by rfl) T.z_int (by decide +kernel) (pa_cons (pe_op op_add3 (pe_op op_fdiv (pe_op op_mul2 (pv 7) (pv 7)) pe_int) (pe_op op_mul2 (pv 5) pe_int)) pa_nil)) pe_int) pa_nil) : PE _ _ (tBM K _ _ _ _))))))))) (pss_one (ps_ret (pv 4)))))), ?_⟩
    walk_at "ss"
    refine k_l hS ?_
    refine c_list (xs := ns.map V.int) (fun D i H1 => Same H H1 ∧ ∃ rs : List Int, rs.length = i ∧ H1 D = some (.lst (rs.map V.int))) (fun D H1 nD s1 e1 => ⟨s1, [], rfl, e1⟩) (fun D i H1 hi nD p => p.1.seq hS) (fun D i x H1 hx nD p => ?_) (fun D H1 nD p => ?_)
    · obtain ⟨s1, rs, lr, er⟩ := p
      have hi := (List.getElem?_eq_some_iff.mp hx).1
      rw [List.length_map] at hi
      obtain ⟨z, rfl⟩ : ∃ z, x = V.int z := by
        rw [List.getElem?_map] at hx
        cases e : ns[i]? with
        | none =>
          rw [e] at hx
          cases hx
        | some z =>
          rw [e] at hx
          exact ⟨z, (Option.some.inj hx).symm⟩
      walk_at "ss"
      refine ⟨rfl, ?_⟩
      walk_at "ss"
      refine iteT ?_
      walk_at "ss"
      exact c_out er (by rw [List.length_map, lr]; exact small1000 (by omega)) fun H2 c2 e2 => ⟨c2.same s1 nD, rs ++ [if z < 0 then -z else z], by simp [lr], by rw [List.map_append]; exact e2⟩
    · obtain ⟨s1, rs, lr, er⟩ := p
      rw [List.length_map] at lr
      walk_at "ss"
      refine n_obj (Nat.zero_le _) fun d H2 nd s2 e2 => ?_
      have nrd : D ≠ d := ne_of_none er nd
      have nd0 : H d = none := s1.free nd
      walk_at "ss"
      refine k_r1 (by omega) (by omega) ?_
      refine f_range (fun i σ H' => ∃ c k t x, ∃ ds rs : List Int, σ = [some (.ref a), some (.int m), c, some (.ref D), some (.ref d), k, t, x] ∧ Same H H' ∧ H' D = some (.lst (rs.map V.int)) ∧ rs.length = ns.length ∧ H' d = some (.lst (ds.map V.int)) ∧ ds.length ≤ i)
        ⟨_, _, _, _, [], rs, rfl, s1.trans s2, s2 _ _ er, lr, e2, Nat.le_refl _⟩ (fun i σ H3 hi p => ?_) (fun σ H3 p => ?_)
      · obtain ⟨c, k, t, x, ds, rs, rfl, s3, e3, l3, f3, g3⟩ := p
        have sz : (ds.map V.int).length < sizeLine := small1000' (by rw [List.length_map]; omega)
        walk_at "ss"
        refine s_cut (fun σ H' => ∃ (c : Int) (t x : Option V) (rs : List Int), σ = [some (.ref a), some (.int m), some (.int c), some (.ref D), some (.ref d), some (.int (0 + (i : Int))), t, x] ∧ Same H H' ∧ H' D = some (.lst (rs.map V.int)) ∧ rs.length = ns.length ∧ H' d = some (.lst (ds.map V.int))) ?_ (fun σ H4 p => ?_)
        · walk_at "ss"
          refine b_lenL (s3.seq hS) ?_
          walk_at "ss"
          refine ite2 (fun e => ?_) (fun e => ?_)
          · have e := of_decide_eq_true e
            rw [List.length_map] at e
            walk_at "ss"
            refine b_lenL (s3.seq hS) ?_
            rw [List.length_map]
            refine o_mod e ?_
            walk_at "ss"
            have b1 : 0 ≤ (0 + (i : Int)) % (ns.length : Int) := Int.emod_nonneg _ (by omega)
            have b2 : (0 + (i : Int)) % (ns.length : Int) < (ns.length : Int) := Int.emod_lt_of_pos _ e
            obtain ⟨j, hj⟩ : ∃ j : Nat, (0 + (i : Int)) % (ns.length : Int) = (j : Int) := ⟨_, (Int.toNat_of_nonneg b1).symm⟩
            rw [hj]
            have hj1 : j < ns.length := by omega
            have hj2 : j < rs.length := by omega
            have g1 : (ns.map V.int)[j]? = some (.int ns[j]) := by
              rw [List.getElem?_map, List.getElem?_eq_getElem hj1]
              rfl
            have g2 : (rs.map V.int)[j]? = some (.int rs[j]) := by
              rw [List.getElem?_map, List.getElem?_eq_getElem hj2]
              rfl
            refine o_ixL (s3.seq hS) (atI_nat g1) ?_
            walk_at "ss"
            refine ite2 (fun e => ?_) (fun e => ?_)
            · walk_at "ss"
              refine o_ixL (lst_of e3) (atI_nat g2) ?_
              walk_at "ss"
              refine ite2 (fun e => ?_) (fun e => ?_)
              · walk_at "ss"
                refine m_ty (lst_of f3) ?_
                walk_at "ss"
                refine o_ixL (lst_of e3) (atI_nat g2) ?_
                walk_at "ss"
                refine m_app f3 sz fun H4 c4 f4 => ?_
                have e4 := c4.at e3 nrd
                have s4 := c4.same s3 nd0
                walk_at "ss"
                refine o_ixL (lst_of e4) (atI_nat g2) ?_
                walk_at "ss"
                refine st_L e4 (j := j) (ixN_nat (by rw [List.length_map]; exact hj2)) fun H5 c5 e5 => ?_
                have f5 := c5.at f4 nrd.symm
                have s5 := c5.same s4 nD
                walk_at "ss"
                refine ⟨_, _, _, _, ds ++ [rs[j] % 1000003], rs.set j (rs[j] / 1000003), rfl, s5, ?_, by rw [List.length_set]; exact l3, ?_, by rw [List.length_append]; exact Nat.succ_le_succ g3⟩
                · rw [e5, List.map_set]
                · rw [f5, List.map_append]
                  rfl
              · walk_at "ss"
                exact ⟨_, _, _, rs, rfl, s3, e3, l3, f3⟩
            · walk_at "ss"
              refine iteF ?_
              walk_at "ss"
              exact ⟨_, _, _, rs, rfl, s3, e3, l3, f3⟩
          · walk_at "ss"
            exact ⟨_, _, _, rs, rfl, s3, e3, l3, f3⟩
        · obtain ⟨c, t, x, rs, rfl, s3, e3, l3, f3⟩ := p
          walk_at "ss"
          refine m_ty (lst_of f3) ?_
          walk_at "ss"
          refine m_app f3 sz fun H5 c5 f5 => ?_
          obtain ⟨ds', f6, l6⟩ := snoc_int f5
          exact ⟨_, _, _, _, ds', rs, rfl, c5.same s3 nd0, c5.at e3 nrd, l3, f6, by omega⟩
      · obtain ⟨c, k, t, x, ds, rs, rfl, s3, e3, l3, f3, g3⟩ := p
        walk_at "ss"
        exact q d H3 ds s3 nd0 f3
end
end K03
namespace K03
open PySem PySem.Spec PyProof.Rows L2 Wy WM

section
variable {P : Program} {w : World} {K : PySem.W.Frag} {mg : Str → Option Value} {base : Heap}
/-! ### the program -/
def spRunEnd : Sp := fun vs H Q _ => ∃ (z p : Str) (i : Nat), vs = [.str z, .int i, .str p] ∧ z.length ≤ 1000000 ∧ i ≤ z.length ∧ Q (.int (runEnd (tl z) (tl p) i : Nat)) H
theorem k_run_end (T : Tx w K mg) : C8.Cal P w K mg base 1 "_run_end" spRunEnd [] := by
  refine cal_of (N := n_run_end) T.d_run_end sc_run_end (fun _ _ F => F.bindsN fun _ _ _ _ _ _ us hl => match us, hl with | [_, _, _], _ => rfl) (fun vs H Q E h => ?_) (fun f cdv A outer s H vs Q E hr h => ?_)
  · obtain ⟨z, p, i, rfl, _⟩ := h
    rfl
  · obtain ⟨z, p, i, rfl, hz, hi, q⟩ := h
    have hz2 : z.length ≤ sizeLine := Nat.le_of_lt (Nat.lt_of_le_of_lt hz (by decide))
    refine ⟨_, (pss_cons (ps_while PassesOwn.never (PW.pt (pw_and (pt_cmpR op_lt (pv 1) (pe_callB (call_len2 : CallR _ _ (rLn K)) (by rfl) T.z_len (by decide +kernel) (pa_cons (pv 0) pa_nil)) (nomark _)) (pw_and1 (pt_cmpR (op_in2 : OpR _ _ (rIn2 K)) (pe_ix (ix_seq : IxR _ (rIx K)) (pv 0) (pv 1) (fun _ _ => rfl)) (pv 2) (by rfl))))) (pss_one (ps_aug (i := 1) sc_run_end.nd rfl (Or.inl rfl) pe_int ip_add))) (pss_one (ps_ret (pv 1)))), ?_⟩
    walk_at "ss"
    refine s_while (fun m σ H' => H' = H ∧ ∃ j : Nat, m = z.length - j ∧ j ≤ z.length ∧ runEnd (tl z) (tl p) j = runEnd (tl z) (tl p) i ∧ σ = [some (.str z), some (.int j), some (.str p)]) (z.length - i) ⟨rfl, i, rfl, hi, rfl, rfl⟩ fun m σ H' hW => ?_
    obtain ⟨rfl, j, rfl, hj, er, rfl⟩ := hW
    walk_at "ss"
    refine b_lenS hz2 ?_
    walk_at "ss"
    refine ite2 (fun e => ?_) (fun e => ?_)
    · have e := of_decide_eq_true e
      obtain ⟨c, g1, g2⟩ := atI_cps (z := z) (i := j) (by omega)
      walk_at "ss"
      refine o_ixS hz2 g2 ?_
      walk_at "ss"
      refine ite2 (fun e2 => ?_) (fun e2 => ?_)
      · have e2 := of_decide_eq_true e2
        refine k_while ?_
        walk_at "ss"
        exact ⟨_, by omega, rfl, j + 1, rfl, by omega, by rw [← er]; exact (runEnd_yes g1 e2).symm, rfl⟩
      · have e2 := of_decide_eq_false (Bool.eq_false_iff.mpr e2)
        walk_at "ss"
        rw [← er, runEnd_no g1 e2] at q
        exact q
    · have e := of_decide_eq_false (Bool.eq_false_iff.mpr e)
      refine iteF ?_
      walk_at "ss"
      rw [← er, runEnd_out (by rw [← str_len]; omega)] at q
      exact q
def spWordEnd : Sp := fun vs H Q _ => ∃ (z : Str) (i c : Nat), vs = [.str z, .int i] ∧ z.length ≤ 1000000 ∧ (tl z)[i]? = some c ∧ Q (.int (wordEnd z i c : Nat)) H
theorem k_word_end (T : Tx w K mg) : C8.Cal P w K mg base 2 "_word_end" spWordEnd [] := by
  refine cal_of (N := n_word_end) T.d_word_end sc_word_end (fun _ _ F => F.bindsN fun _ _ _ _ _ _ us hl => match us, hl with | [_, _], _ => rfl) (fun vs H Q E h => ?_) (fun f cdv A outer s H vs Q E hr h => ?_)
  · obtain ⟨z, i, c, rfl, _⟩ := h
    rfl
  · obtain ⟨z, i, c, rfl, hz, g1, q⟩ := h
    have hz2 : z.length ≤ sizeLine := Nat.le_of_lt (Nat.lt_of_le_of_lt hz (by decide))
    have hi : i < z.length := by
      rw [str_len]
      exact (List.getElem?_eq_some_iff.mp g1).1
    have g2 : atI z.cps.toList (i : Int) = some c := atI_nat g1
    unfold wordEnd at q
    refine ⟨_, (pss_cons (ps_if (pt_cmpR (op_in2 : OpR _ _ (rIn2 K)) (pe_ix (ix_seq : IxR _ (rIx K)) (pv 0) (pv 1) (fun _ _ => rfl)) (C8.pe_gc (by rfl) T.g_LETTERS) (by rfl)) (pss_one (ps_ret (C8.pe_c (k_run_end T) hr (by first | decide | omega) (by rfl) (pa_cons (pv 0) (pa_cons (pv 1) (pa_cons (C8.pe_gc (by rfl) T.g_LETTERS) pa_nil)))))) pss_nil) (pss_cons (ps_if (pt_cmpR (op_in2 : OpR _ _ (rIn2 K)) (pe_ix (ix_seq : IxR _ (rIx K)) (pv 0) (pv 1) (fun _ _ => rfl)) (C8.pe_gc (by rfl) T.g_DIGITS) (by rfl)) (pss_one (ps_ret (C8.pe_c (k_run_end T) hr (by first | decide | omega) (by rfl) (pa_cons (pv 0) (pa_cons (pv 1) (pa_cons (C8.pe_gc (by rfl) T.g_DIGITS) pa_nil)))))) pss_nil) (pss_cons (ps_if (pt_cmpR (op_in2 : OpR _ _ (rIn2 K)) (pe_slice (sl_2 : SlR _ (rSl2 K)) (pv 0) (po_some (pv 1)) (po_some (pe_op op_add3 (pv 1) pe_int))) (C8.pe_gc (by rfl) T.g_LONG_SIGNS) (by rfl)) (pss_one (ps_ret (pe_op op_add3 (pv 1) pe_int))) pss_nil) (pss_cons (ps_if (pt_cmpR (op_in2 : OpR _ _ (rIn2 K)) (pe_ix (ix_seq : IxR _ (rIx K)) (pv 0) (pv 1) (fun _ _ => rfl)) (C8.pe_gc (by rfl) T.g_SHORT_SIGNS) (by rfl)) (pss_one (ps_ret (pe_op op_add3 (pv 1) pe_int))) pss_nil) (pss_one (ps_ret (pv 1))))))), ?_⟩
    walk_at "ss"
    refine o_ixS hz2 g2 ?_
    walk_at "ss"
    refine ite2 (fun e => ?_) (fun e => ?_)
    · have e := of_decide_eq_true e
      rw [if_pos e] at q
      walk_at "ss"
      exact ⟨z, LET, i, rfl, hz, Nat.le_of_lt hi, q⟩
    · have e := of_decide_eq_false (Bool.eq_false_iff.mpr e)
      rw [if_neg e] at q
      walk_at "ss"
      refine o_ixS hz2 g2 ?_
      walk_at "ss"
      refine ite2 (fun e => ?_) (fun e => ?_)
      · have e := of_decide_eq_true e
        rw [if_pos e] at q
        walk_at "ss"
        exact ⟨z, DIG, i, rfl, hz, Nat.le_of_lt hi, q⟩
      · have e := of_decide_eq_false (Bool.eq_false_iff.mpr e)
        rw [if_neg e] at q
        walk_at "ss"
        refine l_S hz2 ?_
        walk_at "ss"
        refine o_inT (T.t_LONG_SIGNS _) rfl (by decide +kernel) ?_
        walk_at "ss"
        refine ite2 (fun e => ?_) (fun e => ?_)
        · have e : pairAt z i = true := e
          rw [if_pos e] at q
          walk_at "ss"
          exact q
        · have e : ¬ pairAt z i = true := e
          rw [if_neg e] at q
          walk_at "ss"
          refine o_ixS hz2 g2 ?_
          walk_at "ss"
          refine ite2 (fun e => ?_) (fun e => ?_)
          · have e := of_decide_eq_true e
            rw [if_pos e] at q
            walk_at "ss"
            exact q
          · have e := of_decide_eq_false (Bool.eq_false_iff.mpr e)
            rw [if_neg e] at q
            walk_at "ss"
            exact q
/-- what a list of words, or None, looks like -/
def WordsV (H : Hp) (v : V) (o : Option (List Str)) : Prop := match o with
  | none => v = .non
  | some ws => ∃ p, v = .ref p ∧ H p = some (.lst (ws.map V.str))
/-- what a new list of words, or None, looks like -/
def NewWords (H0 H : Hp) (v : V) (o : Option (List Str)) : Prop := match o with
  | none => v = .non
  | some ws => ∃ p, v = .ref p ∧ H0 p = none ∧ H p = some (.lst (ws.map V.str))
def spSplit : Sp := fun vs H Q _ => ∃ (z : Str), vs = [.str z] ∧ z.length ≤ 1000000 ∧ ∀ v H', Same H H' → NewWords H H' v (wordsW z) → Q v H'
theorem k_split_row (T : Tx w K mg) : C8.Cal P w K mg base 3 "split_row" spSplit [] := by
  refine cal_of (N := n_split_row) T.d_split_row sc_split_row (fun _ _ F => F.bindsN fun _ _ _ _ _ _ us hl => match us, hl with | [_], _ => rfl) (fun vs H Q E h => ?_) (fun f cdv A outer s H vs Q E hr h => ?_)
  · obtain ⟨z, rfl, _⟩ := h
    rfl
  · obtain ⟨z, rfl, hz, q⟩ := h
    have hz2 : z.length ≤ sizeLine := Nat.le_of_lt (Nat.lt_of_le_of_lt hz (by decide))
    refine ⟨_, (pss_cons (ps_asg (pe_lst pa_nil) (pg_name (i := 1) sc_split_row.nd rfl (Or.inl rfl))) (pss_cons (ps_asg pe_int (pg_name (i := 2) sc_split_row.nd rfl (Or.inl rfl))) (pss_cons (ps_while PassesOwn.never (pt_cmpR op_lt (pv 2) (pe_callB (call_len2 : CallR _ _ (rLn K)) (by rfl) T.z_len (by decide +kernel) (pa_cons (pv 0) pa_nil)) (nomark _)) (pss_cons (ps_if (pt_cmpR (op_eq2 hr.units : OpR _ _ (rEq2 K)) (pe_ix (ix_seq : IxR _ (rIx K)) (pv 0) (pv 2) (fun _ _ => rfl)) pe_str (nomark _)) (pss_cons (ps_aug (i := 2) sc_split_row.nd rfl (Or.inl rfl) pe_int ip_add) (pss_one ps_continue)) pss_nil) (pss_cons (ps_asg (C8.pe_c (k_word_end T) hr (by first | decide | omega) (by rfl) (pa_cons (pv 0) (pa_cons (pv 2) pa_nil))) (pg_name (i := 3) sc_split_row.nd rfl (Or.inl rfl))) (pss_cons (ps_if (pt_cmpR (op_eq2 hr.units : OpR _ _ (rEq2 K)) (pv 3) (pv 2) (nomark _)) (pss_one (ps_ret pe_non)) pss_nil) (pss_cons (ps_expr (pe_bm PySem.F.plainAttrs_list PySem.F.slot_list_append PySem.F.type_list_append mt_append (pv 1) (pa_cons (pe_slice (sl_2 : SlR _ (rSl2 K)) (pv 0) (po_some (pv 2)) (po_some (pv 3))) pa_nil) : PE _ _ (tBM K _ _ _ _))) (pss_one (ps_asg (pv 3) (pg_name (i := 2) sc_split_row.nd rfl (Or.inl rfl))))))))) (pss_one (ps_ret (pv 1)))))), ?_⟩
    walk_at "ss"
    refine n_obj (Nat.zero_le _) fun p H1 np s1 e1 => ?_
    walk_at "ss"
    refine s_while (fun m σ H' => Same H H' ∧ ∃ (j : Nat) (acc : List Str) (x : Option V), m = z.length - j ∧ j ≤ z.length ∧ acc.length ≤ j ∧ from_ z j acc = wordsW z ∧ H' p = some (.lst (acc.map V.str)) ∧ σ = [some (.str z), some (.ref p), some (.int j), x]) z.length
      ⟨s1, 0, [], none, rfl, Nat.zero_le _, Nat.le_refl _, rfl, e1, rfl⟩ fun m σ H2 hW => ?_
    obtain ⟨s2, j, acc, x, rfl, hj, ha, er, e2, rfl⟩ := hW
    walk_at "ss"
    refine b_lenS hz2 ?_
    walk_at "ss"
    refine ite2 (fun e => ?_) (fun e => ?_)
    · have e := of_decide_eq_true e
      have hj1 : j < z.length := by omega
      obtain ⟨c, g1, g2⟩ := atI_cps (z := z) (i := j) hj1
      have st := from_step (acc := acc) g1
      rw [er] at st
      refine k_while ?_
      walk_at "ss"
      refine o_ixS hz2 g2 ?_
      walk_at "ss"
      refine o_eqS rfl ?_
      walk_at "ss"
      refine ite2 (fun e => ?_) (fun e => ?_)
      · have ec : c = 32 := (sign_eq (y := (" " : Str)) (by decide +kernel)).mp e
        rw [if_pos ec] at st
        walk_at "ss"
        exact ⟨_, by omega, s2, j + 1, acc, x, rfl, by omega, by omega, st.symm, e2, rfl⟩
      · have ec : ¬ c = 32 := fun z => e ((sign_eq (y := (" " : Str)) (by decide +kernel)).mpr z)
        rw [if_neg ec] at st
        walk_at "ss"
        refine ⟨z, j, c, rfl, hz, g1, ?_⟩
        walk_at "ss"
        refine o_eqS rfl ?_
        walk_at "ss"
        refine ite2 (fun e => ?_) (fun e => ?_)
        · have e := V.int.inj (of_decide_eq_true e)
          rw [if_pos (by omega)] at st
          walk_at "ss"
          refine q _ _ s2 ?_
          rw [st]
          rfl
        · have e : ¬ ((wordEnd z j c : Nat) : Int) = (j : Int) := fun z => e (by rw [z]; exact decide_eq_true rfl)
          rw [if_neg (by omega)] at st
          walk_at "ss"
          refine m_ty (lst_of e2) ?_
          walk_at "ss"
          refine l_S hz2 ?_
          walk_at "ss"
          refine m_app e2 (by rw [List.length_map]; exact Nat.lt_of_le_of_lt (Nat.le_trans ha hj) (Nat.lt_of_le_of_lt hz (by decide))) fun H3 c3 e3 => ?_
          have g3 := wordEnd_ge z j c
          have g4 := wordEnd_le g1
          walk_at "ss"
          refine ⟨_, ?_, c3.same s2 np, wordEnd z j c, acc ++ [_], _, rfl, g4, ?_, st.symm, ?_, rfl⟩
          · omega
          · rw [List.length_append]
            show acc.length + 1 ≤ _
            omega
          · rw [List.map_append]
            exact e3
    · have e := of_decide_eq_false (Bool.eq_false_iff.mpr e)
      walk_at "ss"
      refine q _ _ s2 ?_
      rw [← er, from_out (by omega)]
      exact ⟨p, rfl, np, e2⟩
end
end K03
namespace K03
open PySem PySem.Spec PyProof.Rows L2 Wy WM

section
variable {P : Program} {w : World} {K : PySem.W.Frag} {mg : Str → Option Value} {base : Heap}
def spNameW : Sp := fun vs H Q _ => ∃ (z : Str), vs = [.str z] ∧ z.length ≤ 1000000 ∧ ∀ H', Same H H' → Q (.bl (nameW z)) H'
def spNumW : Sp := fun vs H Q _ => ∃ (z : Str), vs = [.str z] ∧ z.length ≤ 1000000 ∧ ∀ H', Same H H' → Q (.bl (numberW z)) H'
theorem k_is_name (T : Tx w K mg) : C8.Cal P w K mg base 2 "is_name" spNameW [] := by
  refine cal_of (N := n_is_name) T.d_is_name sc_is_name (fun _ _ F => F.bindsN fun _ _ _ _ _ _ us hl => match us, hl with | [_], _ => rfl) (fun vs H Q E h => ?_) (fun f cdv A outer s H vs Q E hr h => ?_)
  · obtain ⟨z, rfl, _⟩ := h
    rfl
  · obtain ⟨z, rfl, hz, q⟩ := h
    have hz2 : z.length ≤ sizeLine := Nat.le_of_lt (Nat.lt_of_le_of_lt hz (by decide))
    refine ⟨_, (pss_cons (ps_if (PW.pt (pw_or (pt_not (pt_chain op_le op_le pe_int (pe_callB (call_len2 : CallR _ _ (rLn K)) (by rfl) T.z_len (by decide +kernel) (pa_cons (pv 0) pa_nil)) (C8.pe_gc (by rfl) T.g_MOST_LETTERS))) (pw_or1 (pt_cmpR (op_in2 : OpR _ _ (rIn2 K)) (pv 0) (C8.pe_gc (by rfl) T.g_RESERVED) (by rfl))))) (pss_one (ps_ret pe_bl)) pss_nil) (pss_one (ps_ret (pe_cmpR (op_eq2 hr.units : OpR _ _ (rEq2 K)) (C8.pe_c (k_run_end T) hr (by first | decide | omega) (by rfl) (pa_cons (pv 0) (pa_cons pe_int (pa_cons (C8.pe_gc (by rfl) T.g_LETTERS) pa_nil)))) (pe_callB (call_len2 : CallR _ _ (rLn K)) (by rfl) T.z_len (by decide +kernel) (pa_cons (pv 0) pa_nil)) (nomark _))))), ?_⟩
    unfold nameW at q
    walk_at "ss"
    refine b_lenS hz2 ?_
    walk_at "ss"
    refine ite2 (fun e => ?_) (fun e => ?_)
    · have e := of_decide_eq_true e
      rw [decide_eq_true (show 1 ≤ z.length by omega)] at q
      walk_at "ss"
      by_cases e2 : (z.length : Int) ≤ 12
      · rw [decide_eq_true e2]
        rw [decide_eq_true (show z.length ≤ 12 by omega)] at q
        refine iteF ?_
        walk_at "ss"
        refine o_inT (T.t_RESERVED _) rfl (by decide +kernel) ?_
        walk_at "ss"
        cases e3 : inV (.str z) c_RESERVED with
        | true =>
          rw [e3] at q
          refine iteT ?_
          walk_at "ss"
          exact q H (Same.refl H)
        | false =>
          rw [e3] at q
          refine iteF ?_
          walk_at "ss"
          refine ⟨z, LET, 0, rfl, hz, Nat.zero_le _, ?_⟩
          walk_at "ss"
          refine b_lenS hz2 ?_
          refine o_eqS rfl ?_
          walk_at "ss"
          have e4 : decide (V.int ((runEnd (tl z) (tl LET) 0 : Nat) : Int) = V.int (z.length : Int)) = decide (∀ c ∈ tl z, c ∈ tl LET) := by
            rw [decide_eq_decide, ← runEnd_all, ← str_len]
            exact ⟨fun e => by have := V.int.inj e; omega, fun e => by rw [e]⟩
          rw [e4]
          exact q H (Same.refl H)
      · rw [decide_eq_false e2]
        rw [decide_eq_false (show ¬ z.length ≤ 12 by omega)] at q
        refine iteT ?_
        refine iteT ?_
        walk_at "ss"
        exact q H (Same.refl H)
    · have e := of_decide_eq_false (Bool.eq_false_iff.mpr e)
      rw [decide_eq_false (show ¬ 1 ≤ z.length by omega)] at q
      walk_at "ss"
      refine iteT ?_
      refine iteT ?_
      walk_at "ss"
      exact q H (Same.refl H)
def spNum10 : Sp := fun vs H Q _ => ∃ (z : Str), vs = [.str z, .int 10] ∧ z.length ≤ 1000000 ∧ ∀ H', Same H H' → Q (.bl (numberW z)) H'
theorem k_is_numeral (T : Tx w K mg) : C8.Cal P w K mg base 2 "is_numeral" spNum10 [] := by
  refine cal_of (N := n_is_numeral) T.d_is_numeral sc_is_numeral (fun _ _ F => F.bindsN fun _ _ _ _ _ _ us hl => match us, hl with | [_, _], _ => rfl) (fun vs H Q E h => ?_) (fun f cdv A outer s H vs Q E hr h => ?_)
  · obtain ⟨z, rfl, _⟩ := h
    rfl
  · obtain ⟨z, rfl, hz, q⟩ := h
    have hz2 : z.length ≤ sizeLine := Nat.le_of_lt (Nat.lt_of_le_of_lt hz (by decide))
    refine ⟨_, (pss_cons (ps_if (pt_not (pt_chain op_le op_le pe_int (pe_callB (call_len2 : CallR _ _ (rLn K)) (by rfl) T.z_len (by decide +kernel) (pa_cons (pv 0) pa_nil)) (pv 1))) (pss_one (ps_ret pe_bl)) pss_nil) (pss_cons (ps_if (pt_cmpR (op_eq2 hr.units : OpR _ _ (rEq2 K)) (pe_ix (ix_seq : IxR _ (rIx K)) (pv 0) pe_int (fun _ _ => rfl)) pe_str (nomark _)) (pss_one (ps_ret (pe_cmpR (op_eq2 hr.units : OpR _ _ (rEq2 K)) (pv 0) pe_str (nomark _)))) pss_nil) (pss_one (ps_ret (pe_cmpR (op_eq2 hr.units : OpR _ _ (rEq2 K)) (C8.pe_c (k_run_end T) hr (by first | decide | omega) (by rfl) (pa_cons (pv 0) (pa_cons pe_int (pa_cons (C8.pe_gc (by rfl) T.g_DIGITS) pa_nil)))) (pe_callB (call_len2 : CallR _ _ (rLn K)) (by rfl) T.z_len (by decide +kernel) (pa_cons (pv 0) pa_nil)) (nomark _)))))), ?_⟩
    unfold numberW at q
    walk_at "ss"
    refine b_lenS hz2 ?_
    walk_at "ss"
    refine ite2 (fun e => ?_) (fun e => ?_)
    · have e := of_decide_eq_true e
      rw [decide_eq_true (show 1 ≤ z.length by omega)] at q
      walk_at "ss"
      by_cases e2 : (z.length : Int) ≤ 10
      · rw [decide_eq_true e2]
        rw [decide_eq_true (show z.length ≤ 10 by omega)] at q
        refine iteF ?_
        walk_at "ss"
        obtain ⟨c, g1, g2⟩ := atI_cps (z := z) (i := 0) (by omega)
        refine o_ixS hz2 g2 ?_
        walk_at "ss"
        refine o_eqS rfl ?_
        walk_at "ss"
        refine ite2 (fun e => ?_) (fun e => ?_)
        · have ec : c = 48 := (sign_eq (y := ("0" : Str)) (by decide +kernel)).mp e
          subst ec
          walk_at "ss"
          refine o_eqS rfl ?_
          have e4 : decide (V.str z = V.str ("0" : Str)) = (decide (∀ c ∈ tl z, c ∈ tl DIG) && (decide (z.length = 1) || !decide ((tl z)[0]? = some 48))) := by
            by_cases h1 : z.length = 1
            · have ez : z = ("0" : Str) := str_ext (by
                rw [str_len] at h1
                obtain ⟨x, hx⟩ := List.length_eq_one_iff.mp h1
                rw [hx] at g1 ⊢
                have : x = 48 := by simpa using g1
                rw [this]
                decide +kernel)
              rw [ez]
              decide +kernel
            · rw [decide_eq_false (show ¬ V.str z = V.str ("0" : Str) from fun e => h1 (by rw [V.str.inj e]; decide +kernel)), decide_eq_false h1, g1]
              simp
          rw [e4]
          exact q H (Same.refl H)
        · have ec : ¬ c = 48 := fun z => e ((sign_eq (y := ("0" : Str)) (by decide +kernel)).mpr z)
          walk_at "ss"
          refine ⟨z, DIG, 0, rfl, hz, Nat.zero_le _, ?_⟩
          walk_at "ss"
          refine b_lenS hz2 ?_
          refine o_eqS rfl ?_
          walk_at "ss"
          have e4 : decide (V.int ((runEnd (tl z) (tl DIG) 0 : Nat) : Int) = V.int (z.length : Int)) = decide (∀ c ∈ tl z, c ∈ tl DIG) := by
            rw [decide_eq_decide, ← runEnd_all, ← str_len]
            exact ⟨fun e => by have := V.int.inj e; omega, fun e => by rw [e]⟩
          rw [e4]
          rw [g1, show decide (some c = some 48) = false from decide_eq_false (fun e => ec (Option.some.inj e))] at q
          simpa using q H (Same.refl H)
      · rw [decide_eq_false e2]
        rw [decide_eq_false (show ¬ z.length ≤ 10 by omega)] at q
        refine iteT ?_
        walk_at "ss"
        simpa using q H (Same.refl H)
    · have e := of_decide_eq_false (Bool.eq_false_iff.mpr e)
      rw [decide_eq_false (show ¬ 1 ≤ z.length by omega)] at q
      walk_at "ss"
      refine iteT ?_
      walk_at "ss"
      exact q H (Same.refl H)
theorem k_is_number (T : Tx w K mg) : C8.Cal P w K mg base 3 "is_number" spNumW [] := by
  refine cal_of (N := n_is_number) T.d_is_number sc_is_number (fun _ _ F => F.bindsN fun _ _ _ _ _ _ us hl => match us, hl with | [_], _ => rfl) (fun vs H Q E h => ?_) (fun f cdv A outer s H vs Q E hr h => ?_)
  · obtain ⟨z, rfl, _⟩ := h
    rfl
  · obtain ⟨z, rfl, hz, q⟩ := h
    refine ⟨_, (pss_one (ps_ret (C8.pe_c (k_is_numeral T) hr (by first | decide | omega) (by rfl) (pa_cons (pv 0) (pa_cons (C8.pe_gc (by rfl) T.g_MOST_DIGITS) pa_nil))))), ?_⟩
    walk_at "ss"
    exact ⟨z, rfl, hz, q⟩
/-! ### the law's own -/
def spLetters : Sp := fun vs H Q _ => vs = [] ∧ Q (.str LET) H
theorem k_law_letters (T : Tx w K mg) : C8.Cal P w K mg base 1 "_law_letters" spLetters [] := by
  refine cal_of (N := n_law_letters) T.d_law_letters sc_law_letters (fun _ _ F => F.bindsN fun _ _ _ _ _ _ us hl => match us, hl with | [], _ => rfl) (fun vs H Q E h => ?_) (fun f cdv A outer s H vs Q E hr h => ?_)
  · rw [h.1]
    rfl
  · obtain ⟨rfl, q⟩ := h
    refine ⟨_, (pss_one (ps_ret pe_str)), ?_⟩
    walk_at "ss"
    exact q
def spReserved : Sp := fun vs H Q _ => vs = [] ∧ ∀ p H', Same H H' → H p = none → H' p = some (.lst c_RESERVED) → Q (.ref p) H'
theorem k_law_reserved (T : Tx w K mg) : C8.Cal P w K mg base 1 "_law_reserved" spReserved [] := by
  refine cal_of (N := n_law_reserved) T.d_law_reserved sc_law_reserved (fun _ _ F => F.bindsN fun _ _ _ _ _ _ us hl => match us, hl with | [], _ => rfl) (fun vs H Q E h => ?_) (fun f cdv A outer s H vs Q E hr h => ?_)
  · rw [h.1]
    rfl
  · obtain ⟨rfl, q⟩ := h
    refine ⟨_, (pss_cons (ps_asg (pe_lst (pa_cons pe_str (pa_cons pe_str (pa_cons pe_str (pa_cons pe_str (pa_cons pe_str (pa_cons pe_str (pa_cons pe_str (pa_cons pe_str (pa_cons pe_str (pa_cons pe_str (pa_cons pe_str (pa_cons pe_str (pa_cons pe_str (pa_cons pe_str pa_nil))))))))))))))) (pg_name (i := 0) sc_law_reserved.nd rfl (Or.inl rfl))) (pss_one (ps_ret (pe_op op_add3 (pv 0) (pe_lst (pa_cons pe_str (pa_cons pe_str (pa_cons pe_str (pa_cons pe_str (pa_cons pe_str (pa_cons pe_str (pa_cons pe_str (pa_cons pe_str (pa_cons pe_str (pa_cons pe_str (pa_cons pe_str (pa_cons pe_str (pa_cons pe_str pa_nil)))))))))))))))))), ?_⟩
    walk_at "ss"
    refine n_obj (by decide) fun p H1 np s1 e1 => ?_
    walk_at "ss"
    refine n_obj (by decide) fun p2 H2 np2 s2 e2 => ?_
    refine o_addL (s2 _ _ e1) e2 (by decide) fun p3 H3 np3 s3 e3 => ?_
    exact q p3 H3 ((s1.trans s2).trans s3) ((s1.trans s2).free np3) e3
theorem k_law_is_name (T : Tx w K mg) : C8.Cal P w K mg base 2 "_law_is_name" spNameW [] := by
  refine cal_of (N := n_law_is_name) T.d_law_is_name sc_law_is_name (fun _ _ F => F.bindsN fun _ _ _ _ _ _ us hl => match us, hl with | [_], _ => rfl) (fun vs H Q E h => ?_) (fun f cdv A outer s H vs Q E hr h => ?_)
  · obtain ⟨z, rfl, _⟩ := h
    rfl
  · obtain ⟨z, rfl, hz, q⟩ := h
    have hz2 : z.length ≤ sizeLine := Nat.le_of_lt (Nat.lt_of_le_of_lt hz (by decide))
    refine ⟨_, (pss_cons (ps_if (PW.pt (pw_or (pt_cmpR op_lt (pe_callB (call_len2 : CallR _ _ (rLn K)) (by rfl) T.z_len (by decide +kernel) (pa_cons (pv 0) pa_nil)) pe_int (nomark _)) (pw_or (pt_cmpR op_gt (pe_callB (call_len2 : CallR _ _ (rLn K)) (by rfl) T.z_len (by decide +kernel) (pa_cons (pv 0) pa_nil)) pe_int (nomark _)) (pw_or1 (pt_cmpR (op_in2 : OpR _ _ (rIn2 K)) (pv 0) (pe_c0 (k_law_reserved T) hr (by first | decide | omega) (by rfl)) (by rfl)))))) (pss_one (ps_ret pe_bl)) pss_nil) (pss_cons (ps_for PassesOwn.never rfl (pi_str (pv 0)) (pg_name (i := 1) sc_law_is_name.nd rfl (Or.inl rfl)) (pss_one (ps_if (pt_cmpR (op_ni2 : OpR _ _ (rNi2 K)) (pv 1) (pe_c0 (k_law_letters T) hr (by first | decide | omega) (by rfl)) (by rfl)) (pss_one (ps_ret pe_bl)) pss_nil))) (pss_one (ps_ret pe_bl)))), ?_⟩
    unfold nameW at q
    walk_at "ss"
    refine b_lenS hz2 ?_
    walk_at "ss"
    refine ite2 (fun e => ?_) (fun e => ?_)
    · have e := of_decide_eq_true e
      rw [decide_eq_false (show ¬ 1 ≤ z.length by omega)] at q
      refine iteT ?_
      walk_at "ss"
      exact q H (Same.refl H)
    · have e := of_decide_eq_false (Bool.eq_false_iff.mpr e)
      rw [decide_eq_true (show 1 ≤ z.length by omega)] at q
      walk_at "ss"
      refine b_lenS hz2 ?_
      walk_at "ss"
      refine ite2 (fun e => ?_) (fun e => ?_)
      · have e := of_decide_eq_true e
        rw [decide_eq_false (show ¬ z.length ≤ 12 by omega)] at q
        refine iteT ?_
        walk_at "ss"
        exact q H (Same.refl H)
      · have e := of_decide_eq_false (Bool.eq_false_iff.mpr e)
        rw [decide_eq_true (show z.length ≤ 12 by omega)] at q
        walk_at "ss"
        refine ⟨rfl, fun p H1 s1 np e1 => ?_⟩
        refine o_inL (lst_of e1) rfl (by decide +kernel) ?_
        walk_at "ss"
        cases e3 : inV (.str z) c_RESERVED with
        | true =>
          rw [e3] at q
          refine iteT ?_
          walk_at "ss"
          exact q H1 s1
        | false =>
          rw [e3] at q
          refine iteF ?_
          walk_at "ss"
          refine f_str (fun i σ H' => H' = H1 ∧ (∃ x, σ = [some (.str z), x]) ∧ ∀ c ∈ (tl z).take i, c ∈ tl LET) ⟨rfl, ⟨_, rfl⟩, by simp⟩ (fun i k σ H' g p => ?_) (fun σ H' p => ?_)
          · obtain ⟨rfl, ⟨x, rfl⟩, h3⟩ := p
            walk_at "ss"
            refine ⟨rfl, ?_⟩
            walk_at "ss"
            refine ite2 (fun e => ?_) (fun e => ?_)
            · have e := of_decide_eq_false (Bool.not_eq_true' _ ▸ e)
              walk_at "ss"
              rw [show decide (∀ c ∈ tl z, c ∈ tl LET) = false from decide_eq_false fun h => e (h k (List.mem_of_getElem? g))] at q
              exact q H' s1
            · have e : k ∈ tl LET := by simpa using e
              walk_at "ss"
              refine ⟨rfl, ⟨_, rfl⟩, fun c hc => ?_⟩
              rw [List.take_add_one, g] at hc
              rcases List.mem_append.mp hc with hc | hc
              · exact h3 c hc
              · rw [show c = k by simpa using hc]
                exact e
          · obtain ⟨rfl, ⟨x, rfl⟩, h3⟩ := p
            walk_at "ss"
            rw [List.take_length] at h3
            rw [show decide (∀ c ∈ tl z, c ∈ tl LET) = true from decide_eq_true h3] at q
            exact q H' s1
theorem k_law_is_number (T : Tx w K mg) : C8.Cal P w K mg base 1 "_law_is_number" spNumW [] := by
  refine cal_of (N := n_law_is_number) T.d_law_is_number sc_law_is_number (fun _ _ F => F.bindsN fun _ _ _ _ _ _ us hl => match us, hl with | [_], _ => rfl) (fun vs H Q E h => ?_) (fun f cdv A outer s H vs Q E hr h => ?_)
  · obtain ⟨z, rfl, _⟩ := h
    rfl
  · obtain ⟨z, rfl, hz, q⟩ := h
    have hz2 : z.length ≤ sizeLine := Nat.le_of_lt (Nat.lt_of_le_of_lt hz (by decide))
    refine ⟨_, (pss_cons (ps_if (PW.pt (pw_or (pt_cmpR op_lt (pe_callB (call_len2 : CallR _ _ (rLn K)) (by rfl) T.z_len (by decide +kernel) (pa_cons (pv 0) pa_nil)) pe_int (nomark _)) (pw_or (pt_cmpR op_gt (pe_callB (call_len2 : CallR _ _ (rLn K)) (by rfl) T.z_len (by decide +kernel) (pa_cons (pv 0) pa_nil)) pe_int (nomark _)) (pw_or1 (PW.pt (pw_and (pt_cmpR op_gt (pe_callB (call_len2 : CallR _ _ (rLn K)) (by rfl) T.z_len (by decide +kernel) (pa_cons (pv 0) pa_nil)) pe_int (nomark _)) (pw_and1 (pt_cmpR (op_eq2 hr.units : OpR _ _ (rEq2 K)) (pe_ix (ix_seq : IxR _ (rIx K)) (pv 0) pe_int (fun _ _ => rfl)) pe_str (nomark _))))))))) (pss_one (ps_ret pe_bl)) pss_nil) (pss_cons (ps_for PassesOwn.never rfl (pi_str (pv 0)) (pg_name (i := 1) sc_law_is_number.nd rfl (Or.inl rfl)) (pss_one (ps_if (pt_cmpR (op_ni2 : OpR _ _ (rNi2 K)) (pv 1) pe_str (by rfl)) (pss_one (ps_ret pe_bl)) pss_nil))) (pss_one (ps_ret pe_bl)))), ?_⟩
    unfold numberW at q
    walk_at "ss"
    refine b_lenS hz2 ?_
    walk_at "ss"
    refine ite2 (fun e => ?_) (fun e => ?_)
    · have e := of_decide_eq_true e
      rw [decide_eq_false (show ¬ 1 ≤ z.length by omega)] at q
      refine iteT ?_
      walk_at "ss"
      simpa using q H (Same.refl H)
    · have e := of_decide_eq_false (Bool.eq_false_iff.mpr e)
      rw [decide_eq_true (show 1 ≤ z.length by omega)] at q
      obtain ⟨c, g1, g2⟩ := atI_cps (z := z) (i := 0) (by omega)
      rw [g1] at q
      walk_at "ss"
      refine b_lenS hz2 ?_
      walk_at "ss"
      refine ite2 (fun e => ?_) (fun e => ?_)
      · have e := of_decide_eq_true e
        rw [decide_eq_false (show ¬ z.length ≤ 10 by omega)] at q
        refine iteT ?_
        walk_at "ss"
        simpa using q H (Same.refl H)
      · have e := of_decide_eq_false (Bool.eq_false_iff.mpr e)
        rw [decide_eq_true (show z.length ≤ 10 by omega)] at q
        walk_at "ss"
        refine b_lenS hz2 ?_
        walk_at "ss"
        refine ite2 (fun e => ?_) (fun e => ?_)
        · have e := of_decide_eq_true e
          walk_at "ss"
          refine o_ixS hz2 g2 ?_
          walk_at "ss"
          refine o_eqS rfl ?_
          walk_at "ss"
          refine ite2 (fun e => ?_) (fun e => ?_)
          · have ec : c = 48 := (sign_eq (y := ("0" : Str)) (by decide +kernel)).mp e
            rw [decide_eq_false (show ¬ z.length = 1 by omega), decide_eq_true (show some c = some 48 by rw [ec])] at q
            walk_at "ss"
            simpa using q H (Same.refl H)
          · have ec : ¬ c = 48 := fun z => e ((sign_eq (y := ("0" : Str)) (by decide +kernel)).mpr z)
            have last : (decide (z.length = 1) || !decide (some c = some 48)) = true := by
              rw [decide_eq_false (fun e => ec (Option.some.inj e))]
              simp
            walk_at "ss"
            refine f_str (fun i σ H' => H' = H ∧ (∃ x, σ = [some (.str z), x]) ∧ ∀ c ∈ (tl z).take i, c ∈ tl DIG) ⟨rfl, ⟨_, rfl⟩, by simp⟩ (fun i k σ H' g p => ?_) (fun σ H' p => ?_)
            · obtain ⟨rfl, ⟨x, rfl⟩, h3⟩ := p
              walk_at "ss"
              refine ite2 (fun e => ?_) (fun e => ?_)
              · have e := of_decide_eq_false (Bool.not_eq_true' _ ▸ e)
                walk_at "ss"
                rw [show decide (∀ c ∈ tl z, c ∈ tl DIG) = false from decide_eq_false fun h => e (h k (List.mem_of_getElem? g))] at q
                exact q H' (Same.refl H')
              · have e : k ∈ tl DIG := by simpa using e
                walk_at "ss"
                refine ⟨rfl, ⟨_, rfl⟩, fun c hc => ?_⟩
                rw [List.take_add_one, g] at hc
                rcases List.mem_append.mp hc with hc | hc
                · exact h3 c hc
                · rw [show c = k by simpa using hc]
                  exact e
            · obtain ⟨rfl, ⟨x, rfl⟩, h3⟩ := p
              walk_at "ss"
              rw [List.take_length] at h3
              rw [show decide (∀ c ∈ tl z, c ∈ tl DIG) = true from decide_eq_true h3, last] at q
              exact q H' (Same.refl H')
        · have e := of_decide_eq_false (Bool.eq_false_iff.mpr e)
          have last : (decide (z.length = 1) || !decide (some c = some 48)) = true := by
            rw [decide_eq_true (show z.length = 1 by omega)]
            rfl
          refine iteF ?_
          walk_at "ss"
          refine f_str (fun i σ H' => H' = H ∧ (∃ x, σ = [some (.str z), x]) ∧ ∀ c ∈ (tl z).take i, c ∈ tl DIG) ⟨rfl, ⟨_, rfl⟩, by simp⟩ (fun i k σ H' g p => ?_) (fun σ H' p => ?_)
          · obtain ⟨rfl, ⟨x, rfl⟩, h3⟩ := p
            walk_at "ss"
            refine ite2 (fun e => ?_) (fun e => ?_)
            · have e := of_decide_eq_false (Bool.not_eq_true' _ ▸ e)
              walk_at "ss"
              rw [show decide (∀ c ∈ tl z, c ∈ tl DIG) = false from decide_eq_false fun h => e (h k (List.mem_of_getElem? g))] at q
              exact q H' (Same.refl H')
            · have e : k ∈ tl DIG := by simpa using e
              walk_at "ss"
              refine ⟨rfl, ⟨_, rfl⟩, fun c hc => ?_⟩
              rw [List.take_add_one, g] at hc
              rcases List.mem_append.mp hc with hc | hc
              · exact h3 c hc
              · rw [show c = k by simpa using hc]
                exact e
          · obtain ⟨rfl, ⟨x, rfl⟩, h3⟩ := p
            walk_at "ss"
            rw [List.take_length] at h3
            rw [show decide (∀ c ∈ tl z, c ∈ tl DIG) = true from decide_eq_true h3, last] at q
            exact q H' (Same.refl H')
end
end K03
namespace K03
open PySem PySem.Spec PyProof.Rows L2 Wy WM W3

/-- a def that reads words from a place on -/
def spWs (f : List Str → Nat → PyData) : Sp := fun vs H Q _ => ∃ (p : Addr) (ws : List Str) (i : Nat), vs = [.ref p, .int i] ∧ H p = some (.lst ((ws : List Str).map V.str)) ∧ SmallW ws ∧ ∀ v H', Same H H' → Tp H' v (f ws i) → Q v H'
theorem spWs_len {f : List Str → Nat → PyData} (vs : List V) (H : Hp) (Q : VK) (E : XK) (h : spWs f vs H Q E) : vs.length = 2 := by
  obtain ⟨p, ws, i, rfl, _⟩ := h
  rfl
theorem strs_at {ws : List Str} {i : Nat} (h : i < ws.length) : atI (ws.map V.str) (i : Int) = some (.str (wordAt ws i)) := by
  refine atI_nat ?_
  rw [List.getElem?_map, List.getElem?_eq_getElem h, wordAt_in h]
  rfl
section
variable {P : Program} {w : World} {K : PySem.W.Frag} {mg : Str → Option Value} {base : Heap}
theorem k_word_at (T : Tx w K mg) : C8.Cal P w K mg base 1 "word_at" (spWs fun ws i => .str (wordAt ws i)) [] := by
  refine cal_of (N := n_word_at) T.d_word_at sc_word_at (fun _ _ F => F.bindsN fun _ _ _ _ _ _ us hl => match us, hl with | [_, _], _ => rfl) spWs_len (fun f cdv A outer s H vs Q E hr h => ?_)
  obtain ⟨p, ws, i, rfl, e, sm, q⟩ := h
  dsimp only at q
  refine ⟨_, (pss_one (ps_ret (pe_ifExp (pt_cmpR op_lt (pv 1) (pe_callB (call_len2 : CallR _ _ (rLn K)) (by rfl) T.z_len (by decide +kernel) (pa_cons (pv 0) pa_nil)) (nomark _)) (pe_ix (ix_seq : IxR _ (rIx K)) (pv 0) (pv 1) (fun _ _ => rfl)) pe_str))), ?_⟩
  walk_at "ss"
  refine b_lenL (lst_of e) ?_
  walk_at "ss"
  rw [List.length_map]
  refine ite2 (fun e1 => ?_) (fun e1 => ?_)
  · have e1 := of_decide_eq_true e1
    walk_at "ss"
    refine o_ixL (lst_of e) (strs_at (by omega)) ?_
    exact q _ H (Same.refl H) (.str _)
  · have e1 := of_decide_eq_false (Bool.eq_false_iff.mpr e1)
    walk_at "ss"
    refine q _ H (Same.refl H) ?_
    rw [wordAt_out (by omega)]
    exact .str _
/-- a new pair -/
theorem pair_tp {H : Hp} {p : Addr} {x y : V} {d e : PyData} (h : H p = some (.tup [x, y])) (h1 : Tp H x d) (h2 : Tp H y e) : Tp H (.ref p) (.tuple [d, e]) := .tup h (.cons h1 (.cons h2 .nil))
theorem k_take_signed (T : Tx w K mg) : C8.Cal P w K mg base 4 "_take_signed" (spWs fun ws i => iD (takeSigned ws i)) [] := by
  refine cal_of (N := n_take_signed) T.d_take_signed sc_take_signed (fun _ _ F => F.bindsN fun _ _ _ _ _ _ us hl => match us, hl with | [_, _], _ => rfl) spWs_len (fun f cdv A outer s H vs Q E hr h => ?_)
  obtain ⟨p, ws, i, rfl, e, sm, q⟩ := h
  dsimp only at q
  refine ⟨_, (pss_cons (ps_if (pt_tr (C8.pe_c (k_is_number T) hr (by first | decide | omega) (by rfl) (pa_cons (C8.pe_c (k_word_at T) hr (by first | decide | omega) (by rfl) (pa_cons (pv 0) (pa_cons (pv 1) pa_nil))) pa_nil)) : PT _ _ (tTr K _)) (pss_one (ps_ret (pe_tup (pa_cons (pe_callTy call_int2 (by rfl) T.z_int (by decide +kernel) (pa_cons (pe_ix (ix_seq : IxR _ (rIx K)) (pv 0) (pv 1) (fun _ _ => rfl)) pa_nil)) (pa_cons (pe_op op_add3 (pv 1) pe_int) pa_nil))))) pss_nil) (pss_cons (ps_if (PW.pt (pw_and (pt_cmpR (op_eq2 hr.units : OpR _ _ (rEq2 K)) (C8.pe_c (k_word_at T) hr (by first | decide | omega) (by rfl) (pa_cons (pv 0) (pa_cons (pv 1) pa_nil))) pe_str (nomark _)) (pw_and1 (pt_tr (C8.pe_c (k_is_number T) hr (by first | decide | omega) (by rfl) (pa_cons (C8.pe_c (k_word_at T) hr (by first | decide | omega) (by rfl) (pa_cons (pv 0) (pa_cons (pe_op op_add3 (pv 1) pe_int) pa_nil))) pa_nil)) : PT _ _ (tTr K _))))) (pss_one (ps_ret (pe_tup (pa_cons (pe_un un_neg (pe_callTy call_int2 (by rfl) T.z_int (by decide +kernel) (pa_cons (pe_ix (ix_seq : IxR _ (rIx K)) (pv 0) (pe_op op_add3 (pv 1) pe_int) (fun _ _ => rfl)) pa_nil))) (pa_cons (pe_op op_add3 (pv 1) pe_int) pa_nil))))) pss_nil) (pss_one (ps_ret pe_non)))), ?_⟩
  unfold takeSigned at q
  walk_at "ss"
  refine ⟨p, ws, i, rfl, e, sm, fun v H1 s1 t1 => ?_⟩
  cases t1
  walk_at "ss"
  refine ⟨_, rfl, sm.at6 _, fun H2 s2 => ?_⟩
  walk_at "ss"
  refine ite2 (fun e1 => ?_) (fun e1 => ?_)
  · rw [if_pos e1] at q
    have hlt := number_lt e1
    have e2 := s2 _ _ (s1 _ _ e)
    walk_at "ss"
    refine o_ixL (lst_of e2) (strs_at hlt) ?_
    walk_at "ss"
    refine b_intS (number_int e1).1 (number_int e1).2 ?_
    walk_at "ss"
    refine n_obj (lz (by simp)) fun p3 H3 n3 s3 e3 => ?_
    exact q _ H3 ((s1.trans s2).trans s3) (pair_tp e3 (.int _) (.int _))
  · rw [if_neg e1] at q
    walk_at "ss"
    refine ⟨p, ws, i, rfl, s2 _ _ (s1 _ _ e), sm, fun v H3 s3 t3 => ?_⟩
    cases t3
    walk_at "ss"
    refine o_eqS rfl ?_
    walk_at "ss"
    refine ite2 (fun e2 => ?_) (fun e2 => ?_)
    · have e2 : wordAt ws i = "-" := V.str.inj (of_decide_eq_true e2)
      walk_at "ss"
      refine ⟨p, ws, i + 1, rfl, s3 _ _ (s2 _ _ (s1 _ _ e)), sm, fun v H4 s4 t4 => ?_⟩
      cases t4
      walk_at "ss"
      refine ⟨_, rfl, sm.at6 _, fun H5 s5 => ?_⟩
      walk_at "ss"
      refine ite2 (fun e3 => ?_) (fun e3 => ?_)
      · rw [if_pos ⟨e2, e3⟩] at q
        have hlt := number_lt e3
        have e6 := s5 _ _ (s4 _ _ (s3 _ _ (s2 _ _ (s1 _ _ e))))
        walk_at "ss"
        refine o_ixL (lst_of e6) (strs_at (i := i + 1) hlt) ?_
        walk_at "ss"
        refine b_intS (number_int e3).1 (number_int e3).2 ?_
        walk_at "ss"
        refine n_obj (lz (by simp)) fun p7 H7 n7 s7 e7 => ?_
        exact q _ H7 (((((s1.trans s2).trans s3).trans s4).trans s5).trans s7) (pair_tp e7 (.int _) (.int _))
      · rw [if_neg (fun h => e3 h.2)] at q
        walk_at "ss"
        exact q _ H5 ((((s1.trans s2).trans s3).trans s4).trans s5) .non
    · rw [if_neg (fun h => e2 (decide_eq_true (congrArg V.str h.1)))] at q
      walk_at "ss"
      refine iteF ?_
      walk_at "ss"
      exact q _ H3 ((s1.trans s2).trans s3) .non
theorem k_take_plus (T : Tx w K mg) : C8.Cal P w K mg base 4 "_take_plus" (spWs fun ws i => iD (takePlus ws i)) [] := by
  refine cal_of (N := n_take_plus) T.d_take_plus sc_take_plus (fun _ _ F => F.bindsN fun _ _ _ _ _ _ us hl => match us, hl with | [_, _], _ => rfl) spWs_len (fun f cdv A outer s H vs Q E hr h => ?_)
  obtain ⟨p, ws, i, rfl, e, sm, q⟩ := h
  dsimp only at q
  refine ⟨_, (pss_cons (ps_asg (C8.pe_c (k_word_at T) hr (by first | decide | omega) (by rfl) (pa_cons (pv 0) (pa_cons (pv 1) pa_nil))) (pg_name (i := 2) sc_take_plus.nd rfl (Or.inl rfl))) (pss_cons (ps_if (pt_cmpR (op_ni2 : OpR _ _ (rNi2 K)) (pv 2) (pe_tup (pa_cons pe_str (pa_cons pe_str pa_nil))) (by rfl)) (pss_one (ps_ret (pe_tup (pa_cons pe_int (pa_cons (pv 1) pa_nil))))) pss_nil) (pss_cons (ps_if (pt_not (pt_tr (C8.pe_c (k_is_number T) hr (by first | decide | omega) (by rfl) (pa_cons (C8.pe_c (k_word_at T) hr (by first | decide | omega) (by rfl) (pa_cons (pv 0) (pa_cons (pe_op op_add3 (pv 1) pe_int) pa_nil))) pa_nil)) : PT _ _ (tTr K _))) (pss_one (ps_ret pe_non)) pss_nil) (pss_cons (ps_asg (pe_callTy call_int2 (by rfl) T.z_int (by decide +kernel) (pa_cons (pe_ix (ix_seq : IxR _ (rIx K)) (pv 0) (pe_op op_add3 (pv 1) pe_int) (fun _ _ => rfl)) pa_nil)) (pg_name (i := 3) sc_take_plus.nd rfl (Or.inl rfl))) (pss_one (ps_ret (pe_tup (pa_cons (pe_ifExp (pt_cmpR (op_eq2 hr.units : OpR _ _ (rEq2 K)) (pv 2) pe_str (nomark _)) (pv 3) (pe_un un_neg (pv 3))) (pa_cons (pe_op op_add3 (pv 1) pe_int) pa_nil))))))))), ?_⟩
  unfold takePlus at q
  walk_at "ss"
  refine ⟨p, ws, i, rfl, e, sm, fun v H1 s1 t1 => ?_⟩
  cases t1
  walk_at "ss"
  refine n_obj (lz (by simp)) fun p2 H2 n2 s2 e2 => ?_
  refine o_niT (tup_of e2) rfl (by decide +kernel) ?_
  walk_at "ss"
  have hin : inV (.str (wordAt ws i)) [.str "+", .str "-"] = decide (wordAt ws i = "+" ∨ wordAt ws i = "-") := by
    show ((("+" : Str) == wordAt ws i) || ((("-" : Str) == wordAt ws i) || false)) = _
    rw [Bool.or_false, Bool.eq_iff_iff, Bool.or_eq_true, beq_iff_eq, beq_iff_eq, decide_eq_true_iff]
    exact ⟨fun h => h.imp Eq.symm Eq.symm, fun h => h.imp Eq.symm Eq.symm⟩
  by_cases hs : wordAt ws i = "+" ∨ wordAt ws i = "-"
  · rw [hin, decide_eq_true hs]
    rw [if_pos hs] at q
    refine iteF ?_
    walk_at "ss"
    refine ⟨p, ws, i + 1, rfl, s2 _ _ (s1 _ _ e), sm, fun v H3 s3 t3 => ?_⟩
    cases t3
    walk_at "ss"
    refine ⟨_, rfl, sm.at6 _, fun H4 s4 => ?_⟩
    walk_at "ss"
    cases e3 : numberW (wordAt ws (i + 1)) with
    | false =>
      rw [e3] at q
      refine iteT ?_
      walk_at "ss"
      exact q _ H4 (((s1.trans s2).trans s3).trans s4) .non
    | true =>
      rw [e3, if_pos rfl] at q
      refine iteF ?_
      have hlt := number_lt e3
      have e5 := s4 _ _ (s3 _ _ (s2 _ _ (s1 _ _ e)))
      walk_at "ss"
      refine o_ixL (lst_of e5) (strs_at (i := i + 1) hlt) ?_
      walk_at "ss"
      refine b_intS (number_int e3).1 (number_int e3).2 ?_
      walk_at "ss"
      refine o_eqS rfl ?_
      walk_at "ss"
      refine ite2 (fun e4 => ?_) (fun e4 => ?_)
      · have e4 : wordAt ws i = "+" := V.str.inj (of_decide_eq_true e4)
        rw [if_pos e4] at q
        walk_at "ss"
        refine n_obj (lz (by simp)) fun p7 H7 n7 s7 e7 => ?_
        exact q _ H7 ((((s1.trans s2).trans s3).trans s4).trans s7) (pair_tp e7 (.int _) (.int _))
      · rw [if_neg (fun h => e4 (decide_eq_true (congrArg V.str h)))] at q
        walk_at "ss"
        refine n_obj (lz (by simp)) fun p7 H7 n7 s7 e7 => ?_
        exact q _ H7 ((((s1.trans s2).trans s3).trans s4).trans s7) (pair_tp e7 (.int _) (.int _))
  · rw [hin, decide_eq_false hs]
    rw [if_neg hs] at q
    refine iteT ?_
    walk_at "ss"
    refine n_obj (lz (by simp)) fun p7 H7 n7 s7 e7 => ?_
    exact q _ H7 ((s1.trans s2).trans s7) (pair_tp e7 (.int _) (.int _))
/-- what a pair or None holds -/
theorem tp_none {H : Hp} {v : V} (h : Tp H v .none) : v = .non := by
  cases h
  rfl
theorem tp_pair {H : Hp} {v : V} {d e : PyData} (h : Tp H v (.tuple [d, e])) : ∃ a x y, v = .ref a ∧ H a = some (.tup [x, y]) ∧ Tp H x d ∧ Tp H y e := by
  cases h with
  | tup e1 r =>
    cases r with
    | cons h1 r =>
      cases r with
      | cons h2 r =>
        cases r
        exact ⟨_, _, _, rfl, e1, h1, h2⟩
theorem tp_int {H : Hp} {v : V} {i : Int} (h : Tp H v (.int i)) : v = .int i := by
  cases h
  rfl
theorem tp_str {H : Hp} {v : V} {z : Str} (h : Tp H v (.str z)) : v = .str z := by
  cases h
  rfl
theorem k_take_plain (T : Tx w K mg) : C8.Cal P w K mg base 5 "_take_plain" (spWs fun ws i => eD (takePlain ws i)) [] := by
  refine cal_of (N := n_take_plain) T.d_take_plain sc_take_plain (fun _ _ F => F.bindsN fun _ _ _ _ _ _ us hl => match us, hl with | [_, _], _ => rfl) spWs_len (fun f cdv A outer s H vs Q E hr h => ?_)
  obtain ⟨p, ws, i, rfl, e, sm, q⟩ := h
  dsimp only at q
  refine ⟨_, (pss_cons (ps_if (pt_not (pt_tr (C8.pe_c (k_is_name T) hr (by first | decide | omega) (by rfl) (pa_cons (C8.pe_c (k_word_at T) hr (by first | decide | omega) (by rfl) (pa_cons (pv 0) (pa_cons (pv 1) pa_nil))) pa_nil)) : PT _ _ (tTr K _))) (pss_cons (ps_asg (C8.pe_c (k_take_signed T) hr (by first | decide | omega) (by rfl) (pa_cons (pv 0) (pa_cons (pv 1) pa_nil))) (pg_name (i := 2) sc_take_plain.nd rfl (Or.inl rfl))) (pss_one (ps_ret (pe_ifExp (pt_cmpR op_isN2 (pv 2) pe_non (nomark _)) pe_non (pe_tup (pa_cons (pe_tup (pa_cons pe_str (pa_cons (pe_ix (ix_seq : IxR _ (rIx K)) (pv 2) pe_int (fun _ _ => rfl)) pa_nil))) (pa_cons (pe_ix (ix_seq : IxR _ (rIx K)) (pv 2) pe_int (fun _ _ => rfl)) pa_nil))))))) pss_nil) (pss_cons (ps_asg (C8.pe_c (k_take_plus T) hr (by first | decide | omega) (by rfl) (pa_cons (pv 0) (pa_cons (pe_op op_add3 (pv 1) pe_int) pa_nil))) (pg_name (i := 3) sc_take_plain.nd rfl (Or.inl rfl))) (pss_one (ps_ret (pe_ifExp (pt_cmpR op_isN2 (pv 3) pe_non (nomark _)) pe_non (pe_tup (pa_cons (pe_tup (pa_cons pe_str (pa_cons (pe_ix (ix_seq : IxR _ (rIx K)) (pv 0) (pv 1) (fun _ _ => rfl)) (pa_cons (pe_ix (ix_seq : IxR _ (rIx K)) (pv 3) pe_int (fun _ _ => rfl)) pa_nil)))) (pa_cons (pe_ix (ix_seq : IxR _ (rIx K)) (pv 3) pe_int (fun _ _ => rfl)) pa_nil)))))))), ?_⟩
  unfold takePlain at q
  walk_at "ss"
  refine ⟨p, ws, i, rfl, e, sm, fun v H1 s1 t1 => ?_⟩
  cases t1
  walk_at "ss"
  refine ⟨_, rfl, sm.at6 _, fun H2 s2 => ?_⟩
  have e2 := s2 _ _ (s1 _ _ e)
  walk_at "ss"
  cases hn : nameW (wordAt ws i) with
  | false =>
    rw [hn, if_neg Bool.false_ne_true] at q
    refine iteT ?_
    walk_at "ss"
    refine ⟨p, ws, i, rfl, e2, sm, fun v H3 s3 t3 => ?_⟩
    dsimp only at t3
    have s03 := (s1.trans s2).trans s3
    cases ht : takeSigned ws i with
    | none =>
      rw [ht] at t3 q
      obtain rfl := tp_none t3
      walk_at "ss"
      refine iteT ?_
      walk_at "ss"
      exact q _ H3 s03 .non
    | some r =>
      obtain ⟨n, j⟩ := r
      rw [ht] at t3 q
      obtain ⟨a, x, y, rfl, ea, tx, ty⟩ := tp_pair t3
      obtain rfl := tp_int tx
      obtain rfl := tp_int ty
      walk_at "ss"
      refine iteF ?_
      walk_at "ss"
      refine o_ixT (tup_of ea) (atI_nat (j := 0) rfl) ?_
      walk_at "ss"
      refine n_obj (lz (by simp)) fun p4 H4 n4 s4 e4 => ?_
      walk_at "ss"
      refine o_ixT (tup_of (s4 _ _ ea)) (atI_nat (j := 1) rfl) ?_
      walk_at "ss"
      refine n_obj (lz (by simp)) fun p5 H5 n5 s5 e5 => ?_
      exact q _ H5 ((s03.trans s4).trans s5) (pair_tp e5 (pair_tp (s5 _ _ e4) (.str _) (.int _)) (.int _))
  | true =>
    rw [hn, if_pos rfl] at q
    refine iteF ?_
    walk_at "ss"
    refine ⟨p, ws, i + 1, rfl, e2, sm, fun v H3 s3 t3 => ?_⟩
    dsimp only at t3
    have s03 := (s1.trans s2).trans s3
    cases ht : takePlus ws (i + 1) with
    | none =>
      rw [ht] at t3 q
      obtain rfl := tp_none t3
      walk_at "ss"
      refine iteT ?_
      walk_at "ss"
      exact q _ H3 s03 .non
    | some r =>
      obtain ⟨n, j⟩ := r
      rw [ht] at t3 q
      obtain ⟨a, x, y, rfl, ea, tx, ty⟩ := tp_pair t3
      obtain rfl := tp_int tx
      obtain rfl := tp_int ty
      walk_at "ss"
      refine iteF ?_
      walk_at "ss"
      refine o_ixL (lst_of (s3 _ _ e2)) (strs_at (name_lt hn)) ?_
      walk_at "ss"
      refine o_ixT (tup_of ea) (atI_nat (j := 0) rfl) ?_
      walk_at "ss"
      refine n_obj (lz (by simp)) fun p4 H4 n4 s4 e4 => ?_
      walk_at "ss"
      refine o_ixT (tup_of (s4 _ _ ea)) (atI_nat (j := 1) rfl) ?_
      walk_at "ss"
      refine n_obj (lz (by simp)) fun p5 H5 n5 s5 e5 => ?_
      exact q _ H5 ((s03.trans s4).trans s5) (pair_tp e5 (.tup (s5 _ _ e4) (.cons (.str _) (.cons (.str _) (.cons (.int _) .nil)))) (.int _))
theorem k_take_expression (T : Tx w K mg) : C8.Cal P w K mg base 6 "_take_expression" (spWs fun ws i => eD (takeExpr ws i)) [] := by
  refine cal_of (N := n_take_expression) T.d_take_expression sc_take_expression (fun _ _ F => F.bindsN fun _ _ _ _ _ _ us hl => match us, hl with | [_, _], _ => rfl) spWs_len (fun f cdv A outer s H vs Q E hr h => ?_)
  obtain ⟨p, ws, i, rfl, e, sm, q⟩ := h
  dsimp only at q
  refine ⟨_, (pss_cons (ps_if (PW.pt (pw_or (pt_not (pt_tr (C8.pe_c (k_is_name T) hr (by first | decide | omega) (by rfl) (pa_cons (C8.pe_c (k_word_at T) hr (by first | decide | omega) (by rfl) (pa_cons (pv 0) (pa_cons (pv 1) pa_nil))) pa_nil)) : PT _ _ (tTr K _))) (pw_or1 (pt_cmpR (op_ne2 hr.units : OpR _ _ (rNe2 K)) (C8.pe_c (k_word_at T) hr (by first | decide | omega) (by rfl) (pa_cons (pv 0) (pa_cons (pe_op op_add3 (pv 1) pe_int) pa_nil))) pe_str (nomark _))))) (pss_one (ps_ret (C8.pe_c (k_take_plain T) hr (by first | decide | omega) (by rfl) (pa_cons (pv 0) (pa_cons (pv 1) pa_nil))))) pss_nil) (pss_cons (ps_asg (C8.pe_c (k_take_plain T) hr (by first | decide | omega) (by rfl) (pa_cons (pv 0) (pa_cons (pe_op op_add3 (pv 1) pe_int) pa_nil))) (pg_name (i := 2) sc_take_expression.nd rfl (Or.inl rfl))) (pss_cons (ps_if (PW.pt (pw_or (pt_cmpR op_isN2 (pv 2) pe_non (nomark _)) (pw_or1 (pt_cmpR (op_ne2 hr.units : OpR _ _ (rNe2 K)) (C8.pe_c (k_word_at T) hr (by first | decide | omega) (by rfl) (pa_cons (pv 0) (pa_cons (pe_ix (ix_seq : IxR _ (rIx K)) (pv 2) pe_int (fun _ _ => rfl)) pa_nil))) pe_str (nomark _))))) (pss_one (ps_ret pe_non)) pss_nil) (pss_cons (ps_asg (C8.pe_c (k_take_plus T) hr (by first | decide | omega) (by rfl) (pa_cons (pv 0) (pa_cons (pe_op op_add3 (pe_ix (ix_seq : IxR _ (rIx K)) (pv 2) pe_int (fun _ _ => rfl)) pe_int) pa_nil))) (pg_name (i := 3) sc_take_expression.nd rfl (Or.inl rfl))) (pss_one (ps_ret (pe_ifExp (pt_cmpR op_isN2 (pv 3) pe_non (nomark _)) pe_non (pe_tup (pa_cons (pe_tup (pa_cons pe_str (pa_cons (pe_ix (ix_seq : IxR _ (rIx K)) (pv 0) (pv 1) (fun _ _ => rfl)) (pa_cons (pe_ix (ix_seq : IxR _ (rIx K)) (pv 2) pe_int (fun _ _ => rfl)) (pa_cons (pe_ix (ix_seq : IxR _ (rIx K)) (pv 3) pe_int (fun _ _ => rfl)) pa_nil))))) (pa_cons (pe_ix (ix_seq : IxR _ (rIx K)) (pv 3) pe_int (fun _ _ => rfl)) pa_nil)))))))))), ?_⟩
  unfold takeExpr at q
  walk_at "ss"
  refine ⟨p, ws, i, rfl, e, sm, fun v H1 s1 t1 => ?_⟩
  cases t1
  walk_at "ss"
  refine ⟨_, rfl, sm.at6 _, fun H2 s2 => ?_⟩
  have e2 := s2 _ _ (s1 _ _ e)
  walk_at "ss"
  cases hn : nameW (wordAt ws i) with
  | false =>
    rw [hn, if_neg (fun h => Bool.false_ne_true h.1)] at q
    refine iteT ?_
    refine iteT ?_
    walk_at "ss"
    exact ⟨p, ws, i, rfl, e2, sm, fun v H3 s3 t3 => q v H3 ((s1.trans s2).trans s3) t3⟩
  | true =>
    refine iteF ?_
    walk_at "ss"
    refine ⟨p, ws, i + 1, rfl, e2, sm, fun v H3 s3 t3 => ?_⟩
    cases t3
    have e3 := s3 _ _ e2
    have s03 := (s1.trans s2).trans s3
    refine o_neS rfl ?_
    walk_at "ss"
    by_cases hb : wordAt ws (i + 1) = "["
    · rw [if_pos ⟨hn, hb⟩] at q
      rw [hb, decide_eq_true rfl]
      refine iteF ?_
      walk_at "ss"
      refine ⟨p, ws, i + 2, rfl, e3, sm, fun v H4 s4 t4 => ?_⟩
      dsimp only at t4
      have s04 := s03.trans s4
      have e4 := s4 _ _ e3
      cases ht : takePlain ws (i + 2) with
      | none =>
        rw [ht] at t4 q
        obtain rfl := tp_none t4
        walk_at "ss"
        refine iteT ?_
        refine iteT ?_
        walk_at "ss"
        exact q _ H4 s04 .non
      | some r =>
        obtain ⟨x, j⟩ := r
        rw [ht] at t4 q
        dsimp only at q
        obtain ⟨a, x1, y1, rfl, ea, tx, ty⟩ := tp_pair t4
        obtain rfl := tp_int ty
        walk_at "ss"
        refine iteF ?_
        walk_at "ss"
        refine o_ixT (tup_of ea) (atI_nat (j := 1) rfl) ?_
        walk_at "ss"
        refine ⟨p, ws, j, rfl, e4, sm, fun v H5 s5 t5 => ?_⟩
        cases t5
        have e5 := s5 _ _ e4
        have s05 := s04.trans s5
        walk_at "ss"
        refine o_neS rfl ?_
        walk_at "ss"
        by_cases hc : wordAt ws j = "]"
        · rw [if_pos hc] at q
          rw [hc, decide_eq_true rfl]
          refine iteF ?_
          walk_at "ss"
          refine o_ixT (tup_of (s5 _ _ ea)) (atI_nat (j := 1) rfl) ?_
          walk_at "ss"
          refine ⟨p, ws, j + 1, rfl, e5, sm, fun v H6 s6 t6 => ?_⟩
          dsimp only at t6
          have e6 := s6 _ _ e5
          have s06 := s05.trans s6
          cases hp : takePlus ws (j + 1) with
          | none =>
            rw [hp] at t6 q
            obtain rfl := tp_none t6
            walk_at "ss"
            refine iteT ?_
            walk_at "ss"
            exact q _ H6 s06 .non
          | some r =>
            obtain ⟨n, k⟩ := r
            rw [hp] at t6 q
            obtain ⟨a2, x2, y2, rfl, ea2, tx2, ty2⟩ := tp_pair t6
            obtain rfl := tp_int tx2
            obtain rfl := tp_int ty2
            walk_at "ss"
            refine iteF ?_
            walk_at "ss"
            refine o_ixL (lst_of e6) (strs_at (name_lt hn)) ?_
            walk_at "ss"
            refine o_ixT (tup_of (s6 _ _ (s5 _ _ ea))) (atI_nat (j := 0) rfl) ?_
            walk_at "ss"
            refine o_ixT (tup_of ea2) (atI_nat (j := 0) rfl) ?_
            walk_at "ss"
            refine n_obj (lz (by simp)) fun p7 H7 n7 s7 e7 => ?_
            walk_at "ss"
            refine o_ixT (tup_of (s7 _ _ ea2)) (atI_nat (j := 1) rfl) ?_
            walk_at "ss"
            refine n_obj (lz (by simp)) fun p8 H8 n8 s8 e8 => ?_
            exact q _ H8 ((s06.trans s7).trans s8) (pair_tp e8 (.tup (s8 _ _ e7) (.cons (.str _) (.cons (.str _) (.cons (Tp.tk (((s5.trans s6).trans s7).trans s8).tk tx) (.cons (.int _) .nil))))) (.int _))
        · rw [if_neg hc] at q
          rw [decide_eq_false (fun h => hc (V.str.inj h))]
          refine iteT ?_
          walk_at "ss"
          exact q _ H5 s05 .non
    · rw [if_neg (fun h => hb h.2)] at q
      rw [decide_eq_false (fun h => hb (V.str.inj h))]
      refine iteT ?_
      walk_at "ss"
      exact ⟨p, ws, i, rfl, e3, sm, fun v H3 s3' t3 => q v H3 (s03.trans s3') t3⟩
end
end K03
namespace K03
open PySem PySem.Spec PyProof.Rows L2 Wy WM W3 W4 W5

section
variable {P : Program} {w : World} {K : PySem.W.Frag} {mg : Str → Option Value} {base : Heap}
theorem plusS_pos {p : Int} (h : 0 < p) : Str.empty ++ (" + " : Str) ++ Str.ofString (toString p) = plusS p := by
  unfold plusS
  rw [if_neg (by omega), if_pos h, toStr_nat (by omega)]
  refine str_ext ?_
  rw [app_tl, app_tl, app_tl]
  rfl
theorem plusS_neg {p : Int} (h : p < 0) : Str.empty ++ (" - " : Str) ++ Str.ofString (toString (-p)) = plusS p := by
  unfold plusS
  rw [if_neg (by omega), if_neg (by omega), toStr_nat (by omega)]
  refine str_ext ?_
  rw [app_tl, app_tl, app_tl]
  rfl
def spPlusS : Sp := fun vs H Q _ => ∃ p : Int, vs = [.int p] ∧ p.natAbs < 10 ^ 10 ∧ Q (.str (plusS p)) H
theorem k_write_plus (T : Tx w K mg) : C8.Cal P w K mg base 1 "_write_plus" spPlusS [] := by
  refine cal_of (N := n_write_plus) T.d_write_plus sc_write_plus (fun _ _ F => F.bindsN fun _ _ _ _ _ _ us hl => match us, hl with | [_], _ => rfl) (fun vs H Q E h => ?_) (fun f cdv A outer s H vs Q E hr h => ?_)
  · obtain ⟨p, rfl, _⟩ := h
    rfl
  · obtain ⟨p, rfl, hp, q⟩ := h
    have hl := plusS_len hp
    refine ⟨_, (pss_cons (ps_if (pt_cmpR (op_eq2 hr.units : OpR _ _ (rEq2 K)) (pv 0) pe_int (nomark _)) (pss_one (ps_ret pe_str)) pss_nil) (pss_one (ps_ret (pe_ifExp (pt_cmpR op_gt (pv 0) pe_int (nomark _)) (pe_joined2 (PJ.cons pe_str (PJ.cons (pe_fmt (pv 0)) PJ.nil))) (pe_joined2 (PJ.cons pe_str (PJ.cons (pe_fmt (pe_un un_neg (pv 0))) PJ.nil))))))), ?_⟩
    walk_at "ss"
    refine o_eqS rfl ?_
    walk_at "ss"
    refine ite2 (fun e => ?_) (fun e => ?_)
    · have e := V.int.inj (of_decide_eq_true e)
      walk_at "ss"
      subst e
      exact q
    · walk_at "ss"
      refine ite2 (fun e1 => ?_) (fun e1 => ?_)
      · have e1 := of_decide_eq_true e1
        have e2 := plusS_pos e1
        walk_at "ss"
        refine k_j (by decide +kernel) ?_
        walk_at "ss"
        refine k_fI (by omega) ?_
        refine k_j (by rw [e2]; exact lz (by omega)) ?_
        walk_at "ss"
        rw [e2]
        exact q
      · have e1 := of_decide_eq_false (Bool.eq_false_iff.mpr e1)
        have e : p ≠ 0 := fun z => e (by rw [z]; exact decide_eq_true rfl)
        have e2 := plusS_neg (p := p) (by omega)
        walk_at "ss"
        refine k_j (by decide +kernel) ?_
        walk_at "ss"
        refine k_fI (by omega) ?_
        refine k_j (by rw [e2]; exact lz (by omega)) ?_
        walk_at "ss"
        rw [e2]
        exact q
def dep : Ex → Nat
  | .num _ => 0
  | .var _ _ => 0
  | .item _ i _ => dep i + 1
theorem plain_dep {e : Ex} (h : Plain e) : dep e = 0 := by
  cases e with
  | num n => rfl
  | var x p => rfl
  | item x i p => exact h.elim
theorem good_dep {e : Ex} (h : Good e) : dep e ≤ 1 := by
  cases e with
  | num n => exact Nat.zero_le _
  | var x p => exact Nat.zero_le _
  | item x i p =>
    show dep i + 1 ≤ 1
    rw [plain_dep h.2.1]
    exact Nat.le_refl _
/-- what an expression's tuple holds -/
theorem ex_num {H : Hp} {v : V} {n : Int} (h : Tp H v (Ex.num n).d) : ∃ a, v = .ref a ∧ H a = some (.tup [.str "num", .int n]) := by
  cases h with
  | tup e r =>
    cases r with | cons h1 r => cases r with | cons h2 r =>
      cases r
      cases h1
      cases h2
      exact ⟨_, rfl, e⟩
theorem ex_var {H : Hp} {v : V} {x : Str} {p : Int} (h : Tp H v (Ex.var x p).d) : ∃ a, v = .ref a ∧ H a = some (.tup [.str "var", .str x, .int p]) := by
  cases h with
  | tup e r =>
    cases r with | cons h1 r => cases r with | cons h2 r => cases r with | cons h3 r =>
      cases r
      cases h1
      cases h2
      cases h3
      exact ⟨_, rfl, e⟩
theorem ex_item {H : Hp} {v : V} {x : Str} {i : Ex} {p : Int} (h : Tp H v (Ex.item x i p).d) : ∃ a u, v = .ref a ∧ H a = some (.tup [.str "item", .str x, u, .int p]) ∧ Tp H u i.d := by
  cases h with
  | tup e r =>
    cases r with | cons h1 r => cases r with | cons h2 r => cases r with | cons h3 r => cases r with | cons h4 r =>
      cases r
      cases h1
      cases h2
      cases h4
      exact ⟨_, _, rfl, e, h3⟩
/-- an expression's text -/
def spText (n : Nat) : Sp := fun vs H Q _ => ∃ (v : V) (e : Ex), vs = [v] ∧ Tp H v e.d ∧ Good e ∧ dep e < n ∧ Q (.str (textE e)) H
theorem spText_no (vs : List V) (H : Hp) (Q : VK) (E : XK) : ¬ spText 0 vs H Q E := by
  rintro ⟨v, e, _, _, _, h, _⟩
  omega
theorem k_write_expression (T : Tx w K mg) : ∀ n : Nat, C8.Cal P w K mg base (n + 1) "write_expression" (spText n) []
  | 0 => cal_never (ps := ["expression"]) T.d_write_expression (fun _ _ F => F.bindsN fun _ _ _ _ _ _ us hl => match us, hl with | [_], _ => rfl) spText_no
  | n + 1 => by
    have ih := k_write_expression T n
    refine cal_of (N := n_write_expression) T.d_write_expression sc_write_expression (fun _ _ F => F.bindsN fun _ _ _ _ _ _ us hl => match us, hl with | [_], _ => rfl) (fun vs H Q E h => ?_) (fun f cdv A outer s H vs Q E hr h => ?_)
    · obtain ⟨v, e, rfl, _⟩ := h
      rfl
    · obtain ⟨v, e, rfl, te, hg, hd, q⟩ := h
      have hl := good_len hg
      refine ⟨_, (pss_cons (ps_if (pt_cmpR (op_eq2 hr.units : OpR _ _ (rEq2 K)) (pe_ix (ix_seq : IxR _ (rIx K)) (pv 0) pe_int (fun _ _ => rfl)) pe_str (nomark _)) (pss_one (ps_ret (pe_callTy call_strI (by rfl) T.z_str (by decide +kernel) (pa_cons (pe_ix (ix_seq : IxR _ (rIx K)) (pv 0) pe_int (fun _ _ => rfl)) pa_nil)))) pss_nil) (pss_cons (ps_if (pt_cmpR (op_eq2 hr.units : OpR _ _ (rEq2 K)) (pe_ix (ix_seq : IxR _ (rIx K)) (pv 0) pe_int (fun _ _ => rfl)) pe_str (nomark _)) (pss_cons (ps_asg (pv 0) (pg_tup (by rfl) (pgs_cons (pg_name (i := 1) sc_write_expression.nd rfl (Or.inl rfl)) (pgs_cons (pg_name (i := 2) sc_write_expression.nd rfl (Or.inl rfl)) (pgs_cons (pg_name (i := 3) sc_write_expression.nd rfl (Or.inl rfl)) pgs_nil))) : PG _ _ (gTup K _ _))) (pss_one (ps_ret (pe_op op_add3 (pv 2) (C8.pe_c (k_write_plus T) hr (by first | decide | omega) (by rfl) (pa_cons (pv 3) pa_nil)))))) pss_nil) (pss_cons (ps_asg (pv 0) (pg_tup (by rfl) (pgs_cons (pg_name (i := 1) sc_write_expression.nd rfl (Or.inl rfl)) (pgs_cons (pg_name (i := 2) sc_write_expression.nd rfl (Or.inl rfl)) (pgs_cons (pg_name (i := 4) sc_write_expression.nd rfl (Or.inl rfl)) (pgs_cons (pg_name (i := 3) sc_write_expression.nd rfl (Or.inl rfl)) pgs_nil)))) : PG _ _ (gTup K _ _))) (pss_one (ps_ret (pe_joined2 (PJ.cons (pe_fmt (pv 2)) (PJ.cons pe_str (PJ.cons (pe_fmt (C8.pe_c ih hr (by first | decide | omega) (by rfl) (pa_cons (pv 4) pa_nil))) (PJ.cons pe_str (PJ.cons (pe_fmt (C8.pe_c (k_write_plus T) hr (by first | decide | omega) (by rfl) (pa_cons (pv 3) pa_nil))) PJ.nil))))))))))), ?_⟩
      cases e with
      | num m =>
        obtain ⟨a, rfl, ea⟩ := ex_num te
        have hm : m.natAbs < 10 ^ 10 := hg
        walk_at "ss"
        refine o_ixT (tup_of ea) (atI_nat (j := 0) rfl) ?_
        walk_at "ss"
        refine o_eqS rfl ?_
        walk_at "ss"
        refine iteT ?_
        walk_at "ss"
        refine o_ixT (tup_of ea) (atI_nat (j := 1) rfl) ?_
        walk_at "ss"
        refine b_strI (by omega) ?_
        exact q
      | var x p =>
        obtain ⟨a, rfl, ea⟩ := ex_var te
        walk_at "ss"
        refine o_ixT (tup_of ea) (atI_nat (j := 0) rfl) ?_
        walk_at "ss"
        refine o_eqS rfl ?_
        walk_at "ss"
        refine iteF ?_
        walk_at "ss"
        refine o_ixT (tup_of ea) (atI_nat (j := 0) rfl) ?_
        walk_at "ss"
        refine o_eqS rfl ?_
        walk_at "ss"
        refine iteT ?_
        walk_at "ss"
        refine g_tup (tup_of ea) rfl ?_
        walk_at "ss"
        refine ⟨p, rfl, hg.2, ?_⟩
        refine o_addS (lz (by rw [← app_len]; exact Nat.le_trans hl (by decide))) ?_
        exact q
      | item x i p =>
        obtain ⟨a, u, rfl, ea, ti⟩ := ex_item te
        have li := plain_len hg.2.1
        have lp := plusS_len hg.2.2
        have lx := (name_parts hg.1).2.1
        walk_at "ss"
        refine o_ixT (tup_of ea) (atI_nat (j := 0) rfl) ?_
        walk_at "ss"
        refine o_eqS rfl ?_
        walk_at "ss"
        refine iteF ?_
        walk_at "ss"
        refine o_ixT (tup_of ea) (atI_nat (j := 0) rfl) ?_
        walk_at "ss"
        refine o_eqS rfl ?_
        walk_at "ss"
        refine iteF ?_
        walk_at "ss"
        refine g_tup (tup_of ea) rfl ?_
        walk_at "ss"
        refine k_fS (lz (by omega)) ?_
        refine k_j (lz (by rw [app_len]; show 0 + _ ≤ _; omega)) ?_
        walk_at "ss"
        refine k_j (lz (by rw [app_len, app_len]; show 0 + _ + 1 ≤ _; omega)) ?_
        walk_at "ss"
        refine ⟨u, i, rfl, ti, hg.2.1.good, by have : dep i + 1 < n + 1 := hd; omega, ?_⟩
        refine k_fS (lz (by omega)) ?_
        refine k_j (lz (by rw [app_len, app_len, app_len]; show 0 + _ + 1 + _ ≤ _; omega)) ?_
        walk_at "ss"
        refine k_j (lz (by rw [app_len, app_len, app_len, app_len]; show 0 + _ + 1 + _ + 1 ≤ _; omega)) ?_
        walk_at "ss"
        refine ⟨p, rfl, hg.2.2, ?_⟩
        refine k_fS (lz (by omega)) ?_
        have e5 : Str.empty ++ x ++ ("[" : Str) ++ textE i ++ ("]" : Str) ++ plusS p = textE (.item x i p) := by
          refine str_ext ?_
          show (Str.empty ++ x ++ ("[" : Str) ++ textE i ++ ("]" : Str) ++ plusS p).cps.toList = (x ++ ("[" : Str) ++ textE i ++ ("]" : Str) ++ plusS p).cps.toList
          rw [app_tl, app_tl, app_tl, app_tl, app_tl, app_tl, app_tl, app_tl, app_tl]
          rfl
        refine k_j (by rw [e5]; exact lz (by omega)) ?_
        walk_at "ss"
        rw [e5]
        exact q
end
end K03
namespace K03
open PySem PySem.Spec PyProof.Rows L2 Wy WM W3 W4 W5

section
variable {P : Program} {w : World} {K : PySem.W.Frag} {mg : Str → Option Value} {base : Heap}
/-- a new list of words -/
def RetWs (ws : List Str) (H : Hp) (Q : VK) : Prop := ∀ p H', Same H H' → H p = none → H' p = some (.lst (ws.map V.str)) → Q (.ref p) H'
theorem abs_str {p : Int} : Str.ofString (toString (if p < 0 then -p else p)) = numS p.natAbs := by
  have e : (if p < 0 then -p else p) = ((p.natAbs : Nat) : Int) := by
    split <;> omega
  rw [e, toStr_nat (by omega), Int.toNat_natCast]
def spPlusWords : Sp := fun vs H Q _ => ∃ p : Int, vs = [.int p] ∧ p.natAbs < 10 ^ 10 ∧ RetWs (plusW p) H Q
theorem k_law_plus_words (T : Tx w K mg) : C8.Cal P w K mg base 1 "_law_plus_words" spPlusWords [] := by
  refine cal_of (N := n_law_plus_words) T.d_law_plus_words sc_law_plus_words (fun _ _ F => F.bindsN fun _ _ _ _ _ _ us hl => match us, hl with | [_], _ => rfl) (fun vs H Q E h => ?_) (fun f cdv A outer s H vs Q E hr h => ?_)
  · obtain ⟨p, rfl, _⟩ := h
    rfl
  · obtain ⟨p, rfl, hp, q⟩ := h
    unfold plusW at q
    refine ⟨_, (pss_cons (ps_if (pt_cmpR (op_eq2 hr.units : OpR _ _ (rEq2 K)) (pv 0) pe_int (nomark _)) (pss_one (ps_ret (pe_lst pa_nil))) pss_nil) (pss_one (ps_ret (pe_lst (pa_cons (pe_ix (ix_seq : IxR _ (rIx K)) (pe_lst (pa_cons pe_str (pa_cons pe_str pa_nil))) (pe_callTy call_int2 (by rfl) T.z_int (by decide +kernel) (pa_cons (pe_cmpR op_gt (pv 0) pe_int (nomark _)) pa_nil)) (fun _ _ => rfl)) (pa_cons (pe_callTy call_strI (by rfl) T.z_str (by decide +kernel) (pa_cons (pe_callB call_abs2 (by rfl) T.z_abs (by decide +kernel) (pa_cons (pv 0) pa_nil)) pa_nil)) pa_nil)))))), ?_⟩
    walk_at "ss"
    refine o_eqS rfl ?_
    walk_at "ss"
    refine ite2 (fun e => ?_) (fun e => ?_)
    · have e := V.int.inj (of_decide_eq_true e)
      rw [if_pos e] at q
      walk_at "ss"
      refine n_obj (lz (by simp)) fun p1 H1 n1 s1 e1 => ?_
      exact q p1 H1 s1 n1 e1
    · have e : p ≠ 0 := fun z => e (by rw [z]; exact decide_eq_true rfl)
      rw [if_neg e] at q
      walk_at "ss"
      refine n_obj (lz (by simp)) fun p1 H1 n1 s1 e1 => ?_
      walk_at "ss"
      have hsg : atI [V.str "-", V.str "+"] (if decide (0 < p) = true then 1 else 0) = some (.str (if 0 < p then "+" else "-")) := by
        by_cases h : 0 < p
        · rw [decide_eq_true h, if_pos rfl, if_pos h]
          rfl
        · rw [decide_eq_false h, if_neg Bool.false_ne_true, if_neg h]
          rfl
      refine o_ixL (lst_of e1) hsg ?_
      walk_at "ss"
      refine b_strI (by split <;> omega) ?_
      walk_at "ss"
      refine n_obj (lz (by simp)) fun p2 H2 n2 s2 e2 => ?_
      refine q p2 H2 (s1.trans s2) (s1.free n2) ?_
      rw [e2, abs_str]
      rfl
def spWordsOf (n : Nat) : Sp := fun vs H Q _ => ∃ (v : V) (e : Ex), vs = [v] ∧ Tp H v e.d ∧ Good e ∧ dep e < n ∧ RetWs (wordsE e) H Q
theorem wordsE_len {e : Ex} (h : Good e) : (wordsE e).length ≤ 8 := by
  have pl : ∀ p : Int, (plusW p).length ≤ 2 := fun p => by
    unfold plusW
    split
    · exact Nat.zero_le _
    · exact Nat.le_refl _
  have pp : ∀ e : Ex, Plain e → (wordsE e).length ≤ 3 := fun e h => by
    cases e with
    | num n =>
      show (if n < 0 then _ else _ : List Str).length ≤ 3
      split
      · exact Nat.le_succ 2
      · show 1 ≤ 3
        omega
    | var x p =>
      have := pl p
      show (plusW p).length + 1 ≤ 3
      omega
    | item x i p => exact h.elim
  cases e with
  | num n =>
    have := pp (.num n) h
    omega
  | var x p =>
    have := pp (.var x p) h
    omega
  | item x i p =>
    have h1 := pp i h.2.1
    have h2 := pl p
    show ([x, ("[" : Str)] ++ wordsE i ++ [("]" : Str)] ++ plusW p).length ≤ 8
    rw [List.length_append, List.length_append, List.length_append]
    show 2 + _ + 1 + _ ≤ 8
    omega
theorem k_law_words_of (T : Tx w K mg) : ∀ n : Nat, C8.Cal P w K mg base (n + 1) "_law_words_of" (spWordsOf n) []
  | 0 => cal_never (ps := ["expression"]) T.d_law_words_of (fun _ _ F => F.bindsN fun _ _ _ _ _ _ us hl => match us, hl with | [_], _ => rfl) (fun vs H Q E => by
    rintro ⟨v, e, _, _, _, h, _⟩
    omega)
  | n + 1 => by
    have ih := k_law_words_of T n
    refine cal_of (N := n_law_words_of) T.d_law_words_of sc_law_words_of (fun _ _ F => F.bindsN fun _ _ _ _ _ _ us hl => match us, hl with | [_], _ => rfl) (fun vs H Q E h => ?_) (fun f cdv A outer s H vs Q E hr h => ?_)
    · obtain ⟨v, e, rfl, _⟩ := h
      rfl
    · obtain ⟨v, e, rfl, te, hg, hd, q⟩ := h
      have hl := wordsE_len hg
      refine ⟨_, (pss_cons (ps_if (pt_cmpR (op_eq2 hr.units : OpR _ _ (rEq2 K)) (pe_ix (ix_seq : IxR _ (rIx K)) (pv 0) pe_int (fun _ _ => rfl)) pe_str (nomark _)) (pss_cons (ps_if (pt_cmpR op_lt (pe_ix (ix_seq : IxR _ (rIx K)) (pv 0) pe_int (fun _ _ => rfl)) pe_int (nomark _)) (pss_one (ps_ret (pe_lst (pa_cons pe_str (pa_cons (pe_callTy call_strI (by rfl) T.z_str (by decide +kernel) (pa_cons (pe_un un_neg (pe_ix (ix_seq : IxR _ (rIx K)) (pv 0) pe_int (fun _ _ => rfl))) pa_nil)) pa_nil))))) pss_nil) (pss_one (ps_ret (pe_lst (pa_cons (pe_callTy call_strI (by rfl) T.z_str (by decide +kernel) (pa_cons (pe_ix (ix_seq : IxR _ (rIx K)) (pv 0) pe_int (fun _ _ => rfl)) pa_nil)) pa_nil))))) pss_nil) (pss_cons (ps_if (pt_cmpR (op_eq2 hr.units : OpR _ _ (rEq2 K)) (pe_ix (ix_seq : IxR _ (rIx K)) (pv 0) pe_int (fun _ _ => rfl)) pe_str (nomark _)) (pss_one (ps_ret (pe_op op_add3 (pe_lst (pa_cons (pe_ix (ix_seq : IxR _ (rIx K)) (pv 0) pe_int (fun _ _ => rfl)) pa_nil)) (C8.pe_c (k_law_plus_words T) hr (by first | decide | omega) (by rfl) (pa_cons (pe_ix (ix_seq : IxR _ (rIx K)) (pv 0) pe_int (fun _ _ => rfl)) pa_nil))))) pss_nil) (pss_one (ps_ret (pe_op op_add3 (pe_op op_add3 (pe_op op_add3 (pe_lst (pa_cons (pe_ix (ix_seq : IxR _ (rIx K)) (pv 0) pe_int (fun _ _ => rfl)) (pa_cons pe_str pa_nil))) (C8.pe_c ih hr (by first | decide | omega) (by rfl) (pa_cons (pe_ix (ix_seq : IxR _ (rIx K)) (pv 0) pe_int (fun _ _ => rfl)) pa_nil))) (pe_lst (pa_cons pe_str pa_nil))) (C8.pe_c (k_law_plus_words T) hr (by first | decide | omega) (by rfl) (pa_cons (pe_ix (ix_seq : IxR _ (rIx K)) (pv 0) pe_int (fun _ _ => rfl)) pa_nil))))))), ?_⟩
      cases e with
      | num m =>
        obtain ⟨a, rfl, ea⟩ := ex_num te
        have hm : m.natAbs < 10 ^ 10 := hg
        walk_at "ss"
        refine o_ixT (tup_of ea) (atI_nat (j := 0) rfl) ?_
        walk_at "ss"
        refine o_eqS rfl ?_
        walk_at "ss"
        refine iteT ?_
        walk_at "ss"
        refine o_ixT (tup_of ea) (atI_nat (j := 1) rfl) ?_
        walk_at "ss"
        refine ite2 (fun e => ?_) (fun e => ?_)
        · have e := of_decide_eq_true e
          rw [show wordsE (.num m) = [("-" : Str), numS (-m).toNat] from if_pos e] at q
          walk_at "ss"
          refine o_ixT (tup_of ea) (atI_nat (j := 1) rfl) ?_
          walk_at "ss"
          refine b_strI (by omega) ?_
          walk_at "ss"
          refine n_obj (lz (by simp)) fun p2 H2 n2 s2 e2 => ?_
          refine q p2 H2 s2 n2 ?_
          rw [e2, toStr_nat (by omega)]
          rfl
        · have e := of_decide_eq_false (Bool.eq_false_iff.mpr e)
          rw [show wordsE (.num m) = [numS m.toNat] from if_neg e] at q
          walk_at "ss"
          refine o_ixT (tup_of ea) (atI_nat (j := 1) rfl) ?_
          walk_at "ss"
          refine b_strI (by omega) ?_
          walk_at "ss"
          refine n_obj (lz (by simp)) fun p2 H2 n2 s2 e2 => ?_
          refine q p2 H2 s2 n2 ?_
          rw [e2, toStr_nat (by omega)]
          rfl
      | var x p =>
        obtain ⟨a, rfl, ea⟩ := ex_var te
        walk_at "ss"
        refine o_ixT (tup_of ea) (atI_nat (j := 0) rfl) ?_
        walk_at "ss"
        refine o_eqS rfl ?_
        walk_at "ss"
        refine iteF ?_
        walk_at "ss"
        refine o_ixT (tup_of ea) (atI_nat (j := 0) rfl) ?_
        walk_at "ss"
        refine o_eqS rfl ?_
        walk_at "ss"
        refine iteT ?_
        walk_at "ss"
        refine o_ixT (tup_of ea) (atI_nat (j := 1) rfl) ?_
        walk_at "ss"
        refine n_obj (lz (by simp)) fun p1 H1 n1 s1 e1 => ?_
        walk_at "ss"
        refine o_ixT (tup_of (s1 _ _ ea)) (atI_nat (j := 2) rfl) ?_
        walk_at "ss"
        refine ⟨p, rfl, hg.2, fun p2 H2 s2 n2 e2 => ?_⟩
        refine o_addL (s2 _ _ e1) e2 (lz (by rw [List.length_map]; have := wordsE_len hg; show 1 + (plusW p).length ≤ _; have e : (wordsE (.var x p)).length = (plusW p).length + 1 := rfl; omega)) fun p3 H3 n3 s3 e3 => ?_
        exact q p3 H3 ((s1.trans s2).trans s3) ((s1.trans s2).free n3) e3
      | item x i p =>
        obtain ⟨a, u, rfl, ea, ti⟩ := ex_item te
        have hl : ([x, ("[" : Str)] ++ wordsE i ++ [("]" : Str)] ++ plusW p).length ≤ 8 := hl
        rw [List.length_append, List.length_append, List.length_append] at hl
        have hl : 2 + (wordsE i).length + 1 + (plusW p).length ≤ 8 := hl
        walk_at "ss"
        refine o_ixT (tup_of ea) (atI_nat (j := 0) rfl) ?_
        walk_at "ss"
        refine o_eqS rfl ?_
        walk_at "ss"
        refine iteF ?_
        walk_at "ss"
        refine o_ixT (tup_of ea) (atI_nat (j := 0) rfl) ?_
        walk_at "ss"
        refine o_eqS rfl ?_
        walk_at "ss"
        refine iteF ?_
        walk_at "ss"
        refine o_ixT (tup_of ea) (atI_nat (j := 1) rfl) ?_
        walk_at "ss"
        refine n_obj (lz (by simp)) fun p1 H1 n1 s1 e1 => ?_
        walk_at "ss"
        refine o_ixT (tup_of (s1 _ _ ea)) (atI_nat (j := 2) rfl) ?_
        walk_at "ss"
        refine ⟨u, i, rfl, Tp.tk s1.tk ti, hg.2.1.good, by have : dep i + 1 < n + 1 := hd; omega, fun p2 H2 s2 n2 e2 => ?_⟩
        refine o_addL (s2 _ _ e1) e2 (lz (by rw [List.length_map]; show 2 + _ ≤ _; omega)) fun p3 H3 n3 s3 e3 => ?_
        walk_at "ss"
        refine n_obj (lz (by simp)) fun p4 H4 n4 s4 e4 => ?_
        refine o_addL (s4 _ _ e3) e4 (lz (by rw [List.length_append, List.length_map]; show 2 + _ + 1 ≤ _; omega)) fun p5 H5 n5 s5 e5 => ?_
        have s05 := (((s1.trans s2).trans s3).trans s4).trans s5
        walk_at "ss"
        refine o_ixT (tup_of (s05 _ _ ea)) (atI_nat (j := 3) rfl) ?_
        walk_at "ss"
        refine ⟨p, rfl, hg.2.2, fun p6 H6 s6 n6 e6 => ?_⟩
        refine o_addL (s6 _ _ e5) e6 (lz (by rw [List.length_append, List.length_append, List.length_map, List.length_map]; show 2 + _ + 1 + _ ≤ _; omega)) fun p7 H7 n7 s7 e7 => ?_
        refine q p7 H7 ((s05.trans s6).trans s7) ((s05.trans s6).free n7) ?_
        rw [e7]
        show some (HO.lst ([V.str x, V.str "["] ++ (wordsE i).map V.str ++ [V.str "]"] ++ (plusW p).map V.str)) = some (HO.lst (([x, ("[" : Str)] ++ wordsE i ++ [("]" : Str)] ++ plusW p).map V.str))
        rw [List.map_append, List.map_append, List.map_append]
        rfl
def spPlusText : Sp := fun vs H Q _ => ∃ p : Int, vs = [.int p] ∧ p.natAbs < 10 ^ 10 ∧ ∀ H', Same H H' → Q (.str (plusS p)) H'
theorem plus_glue {p : Int} (h : p ≠ 0) : (" " : Str) ++ (if 0 < p then ("+" : Str) else "-") ++ (" " : Str) ++ numS p.natAbs = plusS p := by
  unfold plusS
  rw [if_neg h]
  refine str_ext ?_
  by_cases h2 : 0 < p
  · rw [if_pos h2, if_pos h2, app_tl, app_tl, app_tl, app_tl, show p.toNat = p.natAbs by omega]
    rfl
  · rw [if_neg h2, if_neg h2, app_tl, app_tl, app_tl, app_tl, show (-p).toNat = p.natAbs by omega]
    rfl
theorem k_law_plus_text (T : Tx w K mg) : C8.Cal P w K mg base 1 "_law_plus_text" spPlusText [] := by
  refine cal_of (N := n_law_plus_text) T.d_law_plus_text sc_law_plus_text (fun _ _ F => F.bindsN fun _ _ _ _ _ _ us hl => match us, hl with | [_], _ => rfl) (fun vs H Q E h => ?_) (fun f cdv A outer s H vs Q E hr h => ?_)
  · obtain ⟨p, rfl, _⟩ := h
    rfl
  · obtain ⟨p, rfl, hp, q⟩ := h
    have hl := plusS_len hp
    refine ⟨_, (pss_cons (ps_if (pt_cmpR (op_eq2 hr.units : OpR _ _ (rEq2 K)) (pv 0) pe_int (nomark _)) (pss_one (ps_ret pe_str)) pss_nil) (pss_one (ps_ret (pe_op op_add3 (pe_op op_add3 (pe_op op_add3 pe_str (pe_ix (ix_seq : IxR _ (rIx K)) (pe_lst (pa_cons pe_str (pa_cons pe_str pa_nil))) (pe_callTy call_int2 (by rfl) T.z_int (by decide +kernel) (pa_cons (pe_cmpR op_gt (pv 0) pe_int (nomark _)) pa_nil)) (fun _ _ => rfl))) pe_str) (pe_callTy call_strI (by rfl) T.z_str (by decide +kernel) (pa_cons (pe_callB call_abs2 (by rfl) T.z_abs (by decide +kernel) (pa_cons (pv 0) pa_nil)) pa_nil)))))), ?_⟩
    walk_at "ss"
    refine o_eqS rfl ?_
    walk_at "ss"
    refine ite2 (fun e => ?_) (fun e => ?_)
    · have e := V.int.inj (of_decide_eq_true e)
      walk_at "ss"
      subst e
      exact q H (Same.refl H)
    · have e : p ≠ 0 := fun z => e (by rw [z]; exact decide_eq_true rfl)
      have pg := plus_glue e
      walk_at "ss"
      refine n_obj (lz (by simp)) fun p1 H1 n1 s1 e1 => ?_
      walk_at "ss"
      have hsg : atI [V.str "-", V.str "+"] (if decide (0 < p) = true then 1 else 0) = some (.str (if 0 < p then "+" else "-")) := by
        by_cases h : 0 < p
        · rw [decide_eq_true h, if_pos rfl, if_pos h]
          rfl
        · rw [decide_eq_false h, if_neg Bool.false_ne_true, if_neg h]
          rfl
      have l1 : (if 0 < p then ("+" : Str) else "-").length = 1 := by
        split <;> rfl
      refine o_ixL (lst_of e1) hsg ?_
      refine o_addS (by rw [l1]; decide +kernel) ?_
      walk_at "ss"
      refine o_addS (by rw [app_len, l1]; decide +kernel) ?_
      walk_at "ss"
      refine b_strI (by split <;> omega) ?_
      rw [abs_str]
      refine o_addS (lz (by rw [← app_len, pg]; omega)) ?_
      rw [pg]
      exact q H1 s1
def spLText (n : Nat) : Sp := fun vs H Q _ => ∃ (v : V) (e : Ex), vs = [v] ∧ Tp H v e.d ∧ Good e ∧ dep e < n ∧ ∀ H', Same H H' → Q (.str (textE e)) H'
theorem k_law_text (T : Tx w K mg) : ∀ n : Nat, C8.Cal P w K mg base (n + 1) "_law_text" (spLText n) []
  | 0 => cal_never (ps := ["expression"]) T.d_law_text (fun _ _ F => F.bindsN fun _ _ _ _ _ _ us hl => match us, hl with | [_], _ => rfl) (fun vs H Q E => by
    rintro ⟨v, e, _, _, _, h, _⟩
    omega)
  | n + 1 => by
    have ih := k_law_text T n
    refine cal_of (N := n_law_text) T.d_law_text sc_law_text (fun _ _ F => F.bindsN fun _ _ _ _ _ _ us hl => match us, hl with | [_], _ => rfl) (fun vs H Q E h => ?_) (fun f cdv A outer s H vs Q E hr h => ?_)
    · obtain ⟨v, e, rfl, _⟩ := h
      rfl
    · obtain ⟨v, e, rfl, te, hg, hd, q⟩ := h
      have hl := good_len hg
      refine ⟨_, (pss_cons (ps_if (pt_cmpR (op_eq2 hr.units : OpR _ _ (rEq2 K)) (pe_ix (ix_seq : IxR _ (rIx K)) (pv 0) pe_int (fun _ _ => rfl)) pe_str (nomark _)) (pss_one (ps_ret (pe_callTy call_strI (by rfl) T.z_str (by decide +kernel) (pa_cons (pe_ix (ix_seq : IxR _ (rIx K)) (pv 0) pe_int (fun _ _ => rfl)) pa_nil)))) pss_nil) (pss_cons (ps_if (pt_cmpR (op_eq2 hr.units : OpR _ _ (rEq2 K)) (pe_ix (ix_seq : IxR _ (rIx K)) (pv 0) pe_int (fun _ _ => rfl)) pe_str (nomark _)) (pss_one (ps_ret (pe_op op_add3 (pe_ix (ix_seq : IxR _ (rIx K)) (pv 0) pe_int (fun _ _ => rfl)) (C8.pe_c (k_law_plus_text T) hr (by first | decide | omega) (by rfl) (pa_cons (pe_ix (ix_seq : IxR _ (rIx K)) (pv 0) pe_int (fun _ _ => rfl)) pa_nil))))) pss_nil) (pss_one (ps_ret (pe_op op_add3 (pe_op op_add3 (pe_op op_add3 (pe_op op_add3 (pe_ix (ix_seq : IxR _ (rIx K)) (pv 0) pe_int (fun _ _ => rfl)) pe_str) (C8.pe_c ih hr (by first | decide | omega) (by rfl) (pa_cons (pe_ix (ix_seq : IxR _ (rIx K)) (pv 0) pe_int (fun _ _ => rfl)) pa_nil))) pe_str) (C8.pe_c (k_law_plus_text T) hr (by first | decide | omega) (by rfl) (pa_cons (pe_ix (ix_seq : IxR _ (rIx K)) (pv 0) pe_int (fun _ _ => rfl)) pa_nil))))))), ?_⟩
      cases e with
      | num m =>
        obtain ⟨a, rfl, ea⟩ := ex_num te
        have hm : m.natAbs < 10 ^ 10 := hg
        walk_at "ss"
        refine o_ixT (tup_of ea) (atI_nat (j := 0) rfl) ?_
        walk_at "ss"
        refine o_eqS rfl ?_
        walk_at "ss"
        refine iteT ?_
        walk_at "ss"
        refine o_ixT (tup_of ea) (atI_nat (j := 1) rfl) ?_
        walk_at "ss"
        refine b_strI (by omega) ?_
        exact q H (Same.refl H)
      | var x p =>
        obtain ⟨a, rfl, ea⟩ := ex_var te
        walk_at "ss"
        refine o_ixT (tup_of ea) (atI_nat (j := 0) rfl) ?_
        walk_at "ss"
        refine o_eqS rfl ?_
        walk_at "ss"
        refine iteF ?_
        walk_at "ss"
        refine o_ixT (tup_of ea) (atI_nat (j := 0) rfl) ?_
        walk_at "ss"
        refine o_eqS rfl ?_
        walk_at "ss"
        refine iteT ?_
        walk_at "ss"
        refine o_ixT (tup_of ea) (atI_nat (j := 1) rfl) ?_
        walk_at "ss"
        refine o_ixT (tup_of ea) (atI_nat (j := 2) rfl) ?_
        walk_at "ss"
        refine ⟨p, rfl, hg.2, fun H1 s1 => ?_⟩
        refine o_addS (lz (by rw [← app_len]; exact Nat.le_trans hl (by decide))) ?_
        exact q H1 s1
      | item x i p =>
        obtain ⟨a, u, rfl, ea, ti⟩ := ex_item te
        have li := plain_len hg.2.1
        have lp := plusS_len hg.2.2
        have lx := (name_parts hg.1).2.1
        walk_at "ss"
        refine o_ixT (tup_of ea) (atI_nat (j := 0) rfl) ?_
        walk_at "ss"
        refine o_eqS rfl ?_
        walk_at "ss"
        refine iteF ?_
        walk_at "ss"
        refine o_ixT (tup_of ea) (atI_nat (j := 0) rfl) ?_
        walk_at "ss"
        refine o_eqS rfl ?_
        walk_at "ss"
        refine iteF ?_
        walk_at "ss"
        refine o_ixT (tup_of ea) (atI_nat (j := 1) rfl) ?_
        walk_at "ss"
        refine o_addS (lz (by show _ + 1 ≤ _; omega)) ?_
        walk_at "ss"
        refine o_ixT (tup_of ea) (atI_nat (j := 2) rfl) ?_
        walk_at "ss"
        refine ⟨u, i, rfl, ti, hg.2.1.good, by have : dep i + 1 < n + 1 := hd; omega, fun H1 s1 => ?_⟩
        refine o_addS (lz (by rw [app_len]; show _ + 1 + _ ≤ _; omega)) ?_
        walk_at "ss"
        refine o_addS (lz (by rw [app_len, app_len]; show _ + 1 + _ + 1 ≤ _; omega)) ?_
        walk_at "ss"
        refine o_ixT (tup_of (s1 _ _ ea)) (atI_nat (j := 3) rfl) ?_
        walk_at "ss"
        refine ⟨p, rfl, hg.2.2, fun H2 s2 => ?_⟩
        refine o_addS (lz (by rw [app_len, app_len, app_len]; show _ + 1 + _ + 1 + _ ≤ _; omega)) ?_
        exact q H2 (s1.trans s2)
/-- whether two words would run together -/
def joinB (x y : Str) : Bool := match (tl x).getLast?, (tl y).head? with
  | some a, some c => decide (a ∈ tl LET ∧ c ∈ tl LET) || decide (a ∈ tl DIG ∧ c ∈ tl DIG) || decide (a ∈ EQS ∧ c ∈ EQS)
  | _, _ => false
theorem joinB_iff {x y : Str} : joinB x y = true ↔ joinsLH (tl x) (tl y) := by
  unfold joinB joinsLH
  cases h1 : (tl x).getLast? with
  | none => simp
  | some a =>
    cases h2 : (tl y).head? with
    | none => simp
    | some c =>
      simp only [Bool.or_eq_true, decide_eq_true_eq]
      constructor
      · intro h
        exact ⟨a, c, rfl, rfl, by unfold joinsC; rcases h with (h | h) | h <;> simp [h]⟩
      · rintro ⟨a', c', e1, e2, h⟩
        cases e1
        cases e2
        rcases h with h | h | h
        · exact .inl (.inl h)
        · exact .inl (.inr h)
        · exact .inr h
theorem atI_lastS {z : Str} {c : Nat} (h : (tl z).getLast? = some c) : atI z.cps.toList (-1) = some c := by
  have h : z.cps.toList.getLast? = some c := h
  obtain ⟨r, e⟩ : ∃ r, z.cps.toList = r ++ [c] := by
    obtain ⟨r, e⟩ := List.getLast?_eq_some_iff.mp h
    exact ⟨r, e⟩
  rw [e]
  exact atI_last _ _
theorem atI_headS {z : Str} {c : Nat} (h : (tl z).head? = some c) : atI z.cps.toList (0 : Int) = some c := by
  have h : z.cps.toList.head? = some c := h
  rw [List.head?_eq_getElem?] at h
  exact atI_nat (j := 0) h
def spJoins : Sp := fun vs H Q _ => ∃ (x y : Str), vs = [.str x, .str y] ∧ 1 ≤ x.length ∧ 1 ≤ y.length ∧ x.length ≤ 1000 ∧ y.length ≤ 1000 ∧ Q (.bl (joinB x y)) H
theorem eqs_mem : ∀ c, c ∈ (("<>=!" : Str)).cps.toList ↔ c ∈ EQS := by
  have h : (("<>=!" : Str)).cps.toList = [60, 62, 61, 33] := by decide +kernel
  intro c
  rw [h]
theorem k_law_joins (T : Tx w K mg) : C8.Cal P w K mg base 2 "_law_joins" spJoins [] := by
  refine cal_of (N := n_law_joins) T.d_law_joins sc_law_joins (fun _ _ F => F.bindsN fun _ _ _ _ _ _ us hl => match us, hl with | [_, _], _ => rfl) (fun vs H Q E h => ?_) (fun f cdv A outer s H vs Q E hr h => ?_)
  · obtain ⟨x, y, rfl, _⟩ := h
    rfl
  · obtain ⟨x, y, rfl, lx, ly, lx2, ly2, q⟩ := h
    obtain ⟨a, ha⟩ : ∃ a, (tl x).getLast? = some a := by
      obtain ⟨c, r, e⟩ := List.exists_cons_of_ne_nil (ne_of_len lx)
      rw [e, List.getLast?_cons]
      exact ⟨_, rfl⟩
    obtain ⟨c, hc⟩ : ∃ c, (tl y).head? = some c := by
      obtain ⟨c, r, e⟩ := List.exists_cons_of_ne_nil (ne_of_len ly)
      rw [e]
      exact ⟨_, rfl⟩
    have ga := atI_lastS ha
    have gc := atI_headS hc
    have zx := lz lx2
    have zy := lz ly2
    have q : Q (.bl (decide (a ∈ tl LET ∧ c ∈ tl LET) || decide (a ∈ tl DIG ∧ c ∈ tl DIG) || decide (a ∈ EQS ∧ c ∈ EQS))) H := by
      have e : joinB x y = (decide (a ∈ tl LET ∧ c ∈ tl LET) || decide (a ∈ tl DIG ∧ c ∈ tl DIG) || decide (a ∈ EQS ∧ c ∈ EQS)) := by
        unfold joinB
        rw [ha, hc]
      rw [← e]
      exact q
    refine ⟨_, (pss_cons (ps_if (PW.pt (pw_and (pt_cmpR (op_in2 : OpR _ _ (rIn2 K)) (pe_ix (ix_seq : IxR _ (rIx K)) (pv 0) (pe_un un_neg pe_int) (fun _ _ => rfl)) (pe_c0 (k_law_letters T) hr (by first | decide | omega) (by rfl)) (by rfl)) (pw_and1 (pt_cmpR (op_in2 : OpR _ _ (rIn2 K)) (pe_ix (ix_seq : IxR _ (rIx K)) (pv 1) pe_int (fun _ _ => rfl)) (pe_c0 (k_law_letters T) hr (by first | decide | omega) (by rfl)) (by rfl))))) (pss_one (ps_ret pe_bl)) pss_nil) (pss_cons (ps_if (PW.pt (pw_and (pt_cmpR (op_in2 : OpR _ _ (rIn2 K)) (pe_ix (ix_seq : IxR _ (rIx K)) (pv 0) (pe_un un_neg pe_int) (fun _ _ => rfl)) pe_str (by rfl)) (pw_and1 (pt_cmpR (op_in2 : OpR _ _ (rIn2 K)) (pe_ix (ix_seq : IxR _ (rIx K)) (pv 1) pe_int (fun _ _ => rfl)) pe_str (by rfl))))) (pss_one (ps_ret pe_bl)) pss_nil) (pss_one (ps_ret (pe_and (pe_cmpR (op_in2 : OpR _ _ (rIn2 K)) (pe_ix (ix_seq : IxR _ (rIx K)) (pv 0) (pe_un un_neg pe_int) (fun _ _ => rfl)) pe_str (by rfl)) (pe_one (pe_cmpR (op_in2 : OpR _ _ (rIn2 K)) (pe_ix (ix_seq : IxR _ (rIx K)) (pv 1) pe_int (fun _ _ => rfl)) pe_str (by rfl)))))))), ?_⟩
    walk_at "ss"
    refine o_ixS zx ga ?_
    walk_at "ss"
    refine ⟨rfl, ?_⟩
    walk_at "ss"
    by_cases h1 : a ∈ tl LET ∧ c ∈ tl LET
    · rw [decide_eq_true h1.1]
      rw [decide_eq_true h1] at q
      refine iteT ?_
      walk_at "ss"
      refine o_ixS zy gc ?_
      walk_at "ss"
      refine ⟨rfl, ?_⟩
      walk_at "ss"
      rw [decide_eq_true h1.2]
      refine iteT ?_
      walk_at "ss"
      exact q
    · rw [decide_eq_false h1, Bool.false_or] at q
      -- behind the first test
      have second : ∀ Q' : VK, Q' = Q → True := fun _ _ => trivial
      by_cases h2 : a ∈ tl LET
      · have h3 : c ∉ tl LET := fun h => h1 ⟨h2, h⟩
        have h4 : a ∉ tl DIG := fun h => (dig32 a h).2 h2
        have h5 : a ∉ EQS := fun h => (eqs32 a h).2.1 h2
        rw [decide_eq_false (fun h => h4 h.1), decide_eq_false (fun h => h5 h.1)] at q
        rw [decide_eq_true h2]
        refine iteT ?_
        walk_at "ss"
        refine o_ixS zy gc ?_
        walk_at "ss"
        refine ⟨rfl, ?_⟩
        walk_at "ss"
        rw [decide_eq_false h3]
        refine iteF ?_
        walk_at "ss"
        refine o_ixS zx ga ?_
        walk_at "ss"
        rw [decide_eq_false h4]
        refine iteF ?_
        refine iteF ?_
        walk_at "ss"
        refine o_ixS zx ga ?_
        walk_at "ss"
        rw [decide_eq_false (fun h => h5 ((eqs_mem a).mp h))]
        refine iteF ?_
        exact q
      · rw [decide_eq_false h2]
        refine iteF ?_
        refine iteF ?_
        walk_at "ss"
        refine o_ixS zx ga ?_
        walk_at "ss"
        by_cases h4 : a ∈ tl DIG
        · have h5 : a ∉ EQS := fun h => (eqs32 a h).2.2 h4
          rw [decide_eq_false (p := a ∈ EQS ∧ c ∈ EQS) (fun h => h5 h.1), Bool.or_false] at q
          rw [decide_eq_true h4]
          refine iteT ?_
          walk_at "ss"
          refine o_ixS zy gc ?_
          walk_at "ss"
          by_cases h6 : c ∈ tl DIG
          · rw [decide_eq_true (p := a ∈ tl DIG ∧ c ∈ tl DIG) ⟨h4, h6⟩] at q
            rw [decide_eq_true h6]
            refine iteT ?_
            walk_at "ss"
            exact q
          · rw [decide_eq_false (p := a ∈ tl DIG ∧ c ∈ tl DIG) (fun h => h6 h.2)] at q
            rw [decide_eq_false h6]
            refine iteF ?_
            walk_at "ss"
            refine o_ixS zx ga ?_
            walk_at "ss"
            rw [decide_eq_false (fun h => h5 ((eqs_mem a).mp h))]
            refine iteF ?_
            exact q
        · rw [decide_eq_false (p := a ∈ tl DIG ∧ c ∈ tl DIG) (fun h => h4 h.1), Bool.false_or] at q
          rw [decide_eq_false h4]
          refine iteF ?_
          refine iteF ?_
          walk_at "ss"
          refine o_ixS zx ga ?_
          walk_at "ss"
          by_cases h5 : a ∈ EQS
          · rw [decide_eq_true ((eqs_mem a).mpr h5)]
            refine iteT ?_
            walk_at "ss"
            refine o_ixS zy gc ?_
            walk_at "ss"
            rw [show decide (a ∈ EQS ∧ c ∈ EQS) = decide (c ∈ (("<>=!" : Str)).cps.toList) from decide_eq_decide.mpr ⟨fun h => (eqs_mem c).mpr h.2, fun h => ⟨h5, (eqs_mem c).mp h⟩⟩] at q
            exact q
          · rw [decide_eq_false (fun h => h5 ((eqs_mem a).mp h))]
            rw [decide_eq_false (fun h => h5 h.1)] at q
            refine iteF ?_
            exact q
end
end K03
namespace K03
open PySem PySem.Spec PyProof.Rows L2 Wy WM W3 W4 W5

theorem big1 {n : Nat} (h : n ≤ 1000000) : n < sizeLine := Nat.lt_of_le_of_lt h (by decide)
/-- words that a row may have -/
structure WOk (n : Nat) (ws : List Str) : Prop where
  len : ws.length ≤ n
  tok : ∀ y ∈ ws, Tok y
  short : ∀ y ∈ ws, y.length ≤ 13
theorem WOk.small {n : Nat} {ws : List Str} (h : WOk n ws) (hn : n ≤ 10000) : SmallW ws := ⟨Nat.le_trans h.len hn, fun y hy => Nat.le_trans (h.short y hy) (by decide)⟩
theorem sp_tl (k : Int) : tl (repS (" " : Str) k) = List.replicate k.toNat 32 := by
  have e : (Str.ofString " ").cps.toList = [32] := by decide +kernel
  show (List.replicate k.toNat (Str.ofString " ").cps.toList).flatten.toArray.toList = _
  rw [e]
  simp
theorem tok_pos {y : Str} (h : Tok y) : 1 ≤ y.length := by
  obtain ⟨c, r, e, _⟩ := h.ne
  rw [str_len, show y.cps.toList = c :: r from e, List.length_cons]
  omega
theorem glue_snoc : ∀ {l : List (List Nat × Nat)} {w v : List Nat} {n m : Nat}, GlueOk (l ++ [(w, n)]) → (0 < n ∨ ¬ joinsLH w v) → IsTok v → GlueOk (l ++ [(w, n)] ++ [(v, m)])
  | [], w, v, n, m, h1, h2, h3 => ⟨h1, h2, h3⟩
  | [(u, k)], w, v, n, m, h1, h2, h3 => ⟨h1.1, h1.2.1, h1.2.2, h2, h3⟩
  | (u, k) :: (u2, k2) :: r, w, v, n, m, h1, h2, h3 => ⟨h1.1, h1.2.1, glue_snoc (l := (u2, k2) :: r) h1.2.2 h2 h3⟩
theorem cut_take (ws : List Str) (j : Nat) : cutV (ws.map V.str) none (some (j : Int)) = (ws.take j).map V.str := by
  unfold cutV
  rw [HT.sIx_none, HT.sIx_nat, List.drop_zero, Nat.sub_zero, List.map_take, List.length_map]
  by_cases h : j ≤ ws.length
  · rw [Nat.min_eq_left h]
  · rw [Nat.min_eq_right (by omega), List.take_of_length_le (by simp), List.take_of_length_le (by rw [List.length_map]; omega)]
theorem cut_drop (ws : List Str) (j : Nat) : cutV (ws.map V.str) (some (j : Int)) none = (ws.drop j).map V.str := by
  unfold cutV
  rw [HT.sIx_none, HT.sIx_nat, List.length_map, List.map_drop]
  by_cases h : j ≤ ws.length
  · rw [Nat.min_eq_left h, List.take_of_length_le (by rw [List.length_drop, List.length_map]; exact Nat.le_refl _)]
  · rw [Nat.min_eq_right (by omega), Nat.sub_self, List.take_zero, List.drop_of_length_le (by rw [List.length_map]; omega)]
section
variable {P : Program} {w : World} {K : PySem.W.Frag} {mg : Str → Option Value} {base : Heap}
def spSpaced : Sp := fun vs H Q _ => ∃ (h d p : Addr) (ws : List Str), vs = [.ref h, .ref p] ∧ HandAt H h d ∧ H p = some (.lst (ws.map V.str)) ∧ WOk 8100 ws ∧
  ∀ z H', wordsW z = some ws → (z : Str).length ≤ 200000 → Keep h H H' → HandAt H' h d → Q (.str z) H'
theorem list_ne_hand {H : Hp} {h d p : Addr} {ws : List Str} (hh : HandAt H h d) (e : H p = some (.lst (ws.map V.str))) : p ≠ h := by
  intro z
  subst z
  obtain ⟨n, ds, h1, _, _⟩ := hh
  rw [h1] at e
  cases ws <;> cases e
theorem k_law_spaced (T : Tx w K mg) : C8.Cal P w K mg base 3 "_law_spaced" spSpaced [] := by
  refine cal_of (N := n_law_spaced) T.d_law_spaced sc_law_spaced (fun _ _ F => F.bindsN fun _ _ _ _ _ _ us hl => match us, hl with | [_, _], _ => rfl) (fun vs H Q E h => ?_) (fun f cdv A outer s H vs Q E hr h => ?_)
  · obtain ⟨a, d, p, ws, rfl, _⟩ := h
    rfl
  · obtain ⟨a, d, p, ws, rfl, hh, e, wo, q⟩ := h
    have pa := list_ne_hand hh e
    refine ⟨_, (pss_cons (ps_asg (pe_op op_mul2 pe_str (pe_op op_fdiv (C8.pe_c (k_law_take T) hr (by first | decide | omega) (by rfl) (pa_cons (pv 0) (pa_cons pe_int pa_nil))) pe_int)) (pg_name (i := 2) sc_law_spaced.nd rfl (Or.inl rfl))) (pss_cons (ps_for PassesOwn.never rfl (pi_range1 (by rfl) T.z_range (pa_cons (pe_callB (call_len2 : CallR _ _ (rLn K)) (by rfl) T.z_len (by decide +kernel) (pa_cons (pv 1) pa_nil)) pa_nil)) (pg_name (i := 3) sc_law_spaced.nd rfl (Or.inl rfl)) (pss_cons (ps_asg (pe_op op_add3 (pv 2) (pe_ix (ix_seq : IxR _ (rIx K)) (pv 1) (pv 3) (fun _ _ => rfl))) (pg_name (i := 2) sc_law_spaced.nd rfl (Or.inl rfl))) (pss_cons (ps_asg (pe_ix (ix_seq : IxR _ (rIx K)) (pe_lst (pa_cons pe_int (pa_cons pe_int (pa_cons pe_int (pa_cons pe_int (pa_cons pe_int (pa_cons (pe_op op_add3 pe_int (C8.pe_c (k_law_take T) hr (by first | decide | omega) (by rfl) (pa_cons (pv 0) (pa_cons pe_int pa_nil)))) pa_nil))))))) (C8.pe_c (k_law_take T) hr (by first | decide | omega) (by rfl) (pa_cons (pv 0) (pa_cons pe_int pa_nil))) (fun _ _ => rfl)) (pg_name (i := 4) sc_law_spaced.nd rfl (Or.inl rfl))) (C8.pss_cut (ps_if (PW.pt (pw_and (pt_cmpR (op_eq2 hr.units : OpR _ _ (rEq2 K)) (pv 4) pe_int (nomark _)) (pw_and (pt_cmpR op_lt (pe_op op_add3 (pv 3) pe_int) (pe_callB (call_len2 : CallR _ _ (rLn K)) (by rfl) T.z_len (by decide +kernel) (pa_cons (pv 1) pa_nil)) (nomark _)) (pw_and1 (pt_tr (C8.pe_c (k_law_joins T) hr (by first | decide | omega) (by rfl) (pa_cons (pe_ix (ix_seq : IxR _ (rIx K)) (pv 1) (pv 3) (fun _ _ => rfl)) (pa_cons (pe_ix (ix_seq : IxR _ (rIx K)) (pv 1) (pe_op op_add3 (pv 3) pe_int) (fun _ _ => rfl)) pa_nil))) : PT _ _ (tTr K _)))))) (pss_one (ps_asg pe_int (pg_name (i := 4) sc_law_spaced.nd rfl (Or.inl rfl)))) pss_nil) (pss_one (ps_asg (pe_op op_add3 (pv 2) (pe_op op_mul2 pe_str (pv 4))) (pg_name (i := 2) sc_law_spaced.nd rfl (Or.inl rfl)))))))) (pss_one (ps_ret (pv 2))))), ?_⟩
    walk_at "ss"
    refine ⟨a, d, _, rfl, hh, by omega, fun r H1 r0 r1 c1 hh1 => ?_⟩
    walk_at "ss"
    refine o_mulS (by omega) (by omega) (by decide +kernel) ?_
    walk_at "ss"
    have e1 := c1.at e pa
    refine b_lenL (lst_of e1) ?_
    walk_at "ss"
    rw [List.length_map]
    have hwl := wo.len
    refine k_r1 (by omega) (by omega) ?_
    rw [Int.toNat_natCast]
    refine f_range (fun i σ H' => HandAt H' a d ∧ Keep a H H' ∧ ∃ (z : Str) (k : Nat) (l : List (List Nat × Nat)) (x y : Option V), σ = [some (.ref a), some (.ref p), some (.str z), x, y] ∧ z.length ≤ 2 + i * 20 ∧ tl z = List.replicate k 32 ++ glue l ∧ l.map (·.1) = (ws.take i).map tl ∧ GlueOk l ∧ ∀ hi : i < ws.length, ∀ m, GlueOk (l ++ [(tl ws[i], m)]))
      ⟨hh1, c1.keep, _, (r / 3).toNat, [], _, _, rfl, ?_, ?_, rfl, trivial, fun hi m => show GlueOk [(tl ws[0], m)] from wo.tok _ (List.getElem_mem hi)⟩ (fun i σ H2 hi hW => ?_) (fun σ H2 hW => ?_)
    · rw [repS_len]
      show _ * 1 ≤ _
      omega
    · show _ = List.replicate (r / 3).toNat 32 ++ []
      rw [List.append_nil]
      exact sp_tl _
    · obtain ⟨hh2, k2, z, k, l, x, y, rfl, lz2, ez, el, gl, gn⟩ := hW
      have e2 := k2 p _ pa e
      have ti := wo.tok _ (List.getElem_mem hi)
      have li := wo.short _ (List.getElem_mem hi)
      have hi50 : i < 8100 := by omega
      walk_at "ss"
      refine o_ixL (lst_of e2) (atI_of (j := i) (v := .str ws[i]) (by omega) (by rw [List.getElem?_map, List.getElem?_eq_getElem hi]; rfl)) ?_
      refine o_addS (Nat.le_of_lt (big1 (by omega))) ?_
      walk_at "ss"
      refine ⟨a, d, _, rfl, hh2, by omega, fun r2 H3 r3 r4 c3 hh3 => ?_⟩
      walk_at "ss"
      refine n_obj (lz (by simp)) fun p4 H4 n4 s4 e4 => ?_
      have nn := hh3.new n4
      walk_at "ss"
      refine ⟨a, d, _, rfl, hh3.same s4, by omega, fun r5 H5 r6 r7 c5 hh5 => ?_⟩
      obtain ⟨j, hj⟩ : ∃ j : Nat, r5 = (j : Int) := ⟨r5.toNat, by omega⟩
      subst hj
      obtain ⟨n, g, n1, n2⟩ : ∃ n : Nat, [V.int 0, V.int 0, V.int 1, V.int 1, V.int 2, V.int (2 + r2)][j]? = some (.int n) ∧ 0 ≤ n ∧ n ≤ 6 := by
        have hj : j < 6 := by omega
        match j, hj with
        | 0, _ => exact ⟨0, rfl, by omega, by omega⟩
        | 1, _ => exact ⟨0, rfl, by omega, by omega⟩
        | 2, _ => exact ⟨1, rfl, by omega, by omega⟩
        | 3, _ => exact ⟨1, rfl, by omega, by omega⟩
        | 4, _ => exact ⟨2, rfl, by omega, by omega⟩
        | 5, _ => exact ⟨(2 + r2).toNat, by rw [Int.toNat_of_nonneg (by omega)]; rfl, by omega, by omega⟩
      refine o_ixL (lst_of (c5.at e4 nn.1.symm)) (atI_nat g) ?_
      have k5 : Keep a H H5 := ((k2.trans c3.keep).trans s4.keep).trans c5.keep
      have e5 := k5 p _ pa e
      walk_at "ss"
      refine s_cut (fun σ H' => Same H5 H' ∧ ∃ m : Nat, m ≤ 6 ∧ (∀ h2 : i + 1 < ws.length, 0 < m ∨ ¬ joinsLH (tl ws[i]) (tl ws[i + 1])) ∧ σ = [some (.ref a), some (.ref p), some (.str (z ++ ws[i])), some (.int (0 + (i : Int))), some (.int m)]) ?_ (fun σ' H6 hM => ?_)
      · walk_at "ss"
        refine o_eqS rfl ?_
        walk_at "ss"
        by_cases hn : n = 0
        · rw [show decide (V.int (n : Int) = V.int 0) = true from decide_eq_true (by rw [hn]; rfl)]
          refine iteT ?_
          walk_at "ss"
          refine b_lenL (lst_of e5) ?_
          walk_at "ss"
          rw [List.length_map]
          refine ite2 (fun e => ?_) (fun e => ?_)
          · have e := of_decide_eq_true e
            have hi2 : i + 1 < ws.length := by omega
            walk_at "ss"
            refine o_ixL (lst_of e5) (atI_of (j := i) (v := .str ws[i]) (by omega) (by rw [List.getElem?_map, List.getElem?_eq_getElem hi]; rfl)) ?_
            walk_at "ss"
            refine o_ixL (lst_of e5) (atI_of (j := i + 1) (v := .str ws[i + 1]) (by omega) (by rw [List.getElem?_map, List.getElem?_eq_getElem hi2]; rfl)) ?_
            walk_at "ss"
            refine ⟨ws[i], ws[i + 1], rfl, tok_pos ti, tok_pos (wo.tok _ (List.getElem_mem hi2)), by omega, by have := wo.short _ (List.getElem_mem hi2); omega, ?_⟩
            walk_at "ss"
            cases hj : joinB ws[i] ws[i + 1] with
            | true =>
              refine iteT ?_
              walk_at "ss"
              exact ⟨Same.refl _, 1, by omega, fun _ => .inl (by omega), rfl⟩
            | false =>
              refine iteF ?_
              walk_at "ss"
              exact ⟨Same.refl _, n, by omega, fun h2 => .inr (fun h => by rw [joinB_iff.mpr h] at hj; cases hj), rfl⟩
          · have e := of_decide_eq_false (Bool.eq_false_iff.mpr e)
            refine iteF ?_
            walk_at "ss"
            exact ⟨Same.refl _, n, by omega, fun h2 => by omega, rfl⟩
        · rw [show decide (V.int (n : Int) = V.int 0) = false from decide_eq_false (fun h => hn (by have := V.int.inj h; omega))]
          refine iteF ?_
          refine iteF ?_
          walk_at "ss"
          exact ⟨Same.refl _, n, by omega, fun h2 => .inl (by omega), rfl⟩
      · obtain ⟨s6, m, hm, hj, rfl⟩ := hM
        walk_at "ss"
        refine o_mulS (by omega) (by omega) (by decide +kernel) ?_
        have lr : (repS (" " : Str) (m : Int)).length = m := by
          rw [repS_len]
          show _ * 1 = _
          omega
        have er : tl (repS (" " : Str) (m : Int)) = List.replicate m 32 := sp_tl _
        refine o_addS (Nat.le_of_lt (big1 (by rw [app_len]; have : (repS (Str.ofString " ") (m : Int)).length = m := lr; omega))) ?_
        walk_at "ss"
        refine ⟨hh5.same s6, k5.trans s6.keep, _, k, l ++ [(tl ws[i], m)], _, _, rfl, ?_, ?_, ?_, gn hi m, fun hi2 m2 => ?_⟩
        · rw [app_len, app_len]
          have : (repS (Str.ofString " ") (m : Int)).length = m := lr
          omega
        · rw [tl_app, tl_app, ez, glue_app]
          have : tl (repS (Str.ofString " ") (m : Int)) = List.replicate m 32 := er
          rw [this]
          show _ = _ ++ (glue l ++ (tl ws[i] ++ (List.replicate m 32 ++ [])))
          simp
        · rw [List.map_append, el, List.take_add_one, List.getElem?_eq_getElem hi, List.map_append]
          rfl
        · exact glue_snoc (gn hi m) (hj hi2) (wo.tok _ (List.getElem_mem hi2))
    · obtain ⟨hh2, k2, z, k, l, x, y, rfl, lz2, ez, el, gl, gn⟩ := hW
      walk_at "ss"
      refine q z H2 ?_ (by omega) k2 hh2
      rw [words_glue gl ez]
      congr 1
      rw [List.take_length] at el
      have e3 : l.map (fun p => mkS p.1) = (l.map (·.1)).map mkS := by rw [List.map_map]; rfl
      rw [e3, el, List.map_map]
      have e4 : (mkS ∘ tl) = id := funext fun z => tl_mkS z
      rw [e4, List.map_id]
def oddB (x : V) : Bool := match x with
  | .str y => decide (y.length ≤ 13) && ((decide (y.length ≥ 1) && (tl y).all fun c => decide (c ∈ tl LET)) || (decide (y.length ≥ 1) && (tl y).all fun c => decide (c ∈ tl DIG)) || (match tl y with | [c] => decide (c ∈ tl SHO) | [c, e] => decide (c ∈ EQS) && decide (e = 61) | _ => false))
  | _ => false
theorem odd_item {xs : List V} (h : xs.all oddB = true) {j : Nat} (hj : j < xs.length) : ∃ y : Str, xs[j]? = some (.str y) ∧ y.length ≤ 13 ∧ Tok y := by
  have h1 := List.all_eq_true.mp h xs[j] (List.getElem_mem hj)
  cases e : xs[j] with
  | str y =>
    rw [e] at h1
    obtain ⟨h2, h3⟩ := Bool.and_eq_true_iff.mp h1
    refine ⟨y, by rw [List.getElem?_eq_getElem hj, e], of_decide_eq_true h2, ?_⟩
    rcases Bool.or_eq_true_iff.mp h3 with h3 | h3
    · rcases Bool.or_eq_true_iff.mp h3 with h3 | h3
      · obtain ⟨h4, h5⟩ := Bool.and_eq_true_iff.mp h3
        exact tok_let (ne_of_len (of_decide_eq_true h4)) fun c hc => of_decide_eq_true (List.all_eq_true.mp h5 c hc)
      · obtain ⟨h4, h5⟩ := Bool.and_eq_true_iff.mp h3
        exact tok_dig (ne_of_len (of_decide_eq_true h4)) fun c hc => of_decide_eq_true (List.all_eq_true.mp h5 c hc)
    · show IsTok (tl y)
      split at h3
      · rename_i c ec
        rw [ec]
        exact tok_one (of_decide_eq_true h3)
      · rename_i c e2 ec
        obtain ⟨h4, h5⟩ := Bool.and_eq_true_iff.mp h3
        rw [ec, of_decide_eq_true h5]
        exact tok_two (of_decide_eq_true h4)
      · cases h3
  | _ =>
    rw [e] at h1
    cases h1
def spSpoilt : Sp := fun vs H Q _ => ∃ (h d p : Addr) (ws : List Str), vs = [.ref h, .ref p] ∧ HandAt H h d ∧ H p = some (.lst (ws.map V.str)) ∧ ws ≠ [] ∧ WOk 8050 ws ∧
  ∀ p' ws' H', H' p' = some (.lst ((ws' : List Str).map V.str)) → WOk (ws.length + 1) ws' → Keep h H H' → HandAt H' h d → Q (.ref p') H'
theorem WOk.of {n : Nat} {ws ws' : List Str} {y : Str} (h : WOk n ws) (ty : Tok y) (ly : y.length ≤ 13) (hl : ws'.length ≤ ws.length + 1) (hm : ∀ x ∈ ws', x ∈ ws ∨ x = y) : WOk (ws.length + 1) ws' :=
  ⟨hl, fun x hx => (hm x hx).elim (h.tok x) (fun e => e ▸ ty), fun x hx => (hm x hx).elim (h.short x) (fun e => e ▸ ly)⟩
theorem k_law_spoilt (T : Tx w K mg) : C8.Cal P w K mg base 2 "_law_spoilt" spSpoilt [] := by
  refine cal_of (N := n_law_spoilt) T.d_law_spoilt sc_law_spoilt (fun _ _ F => F.bindsN fun _ _ _ _ _ _ us hl => match us, hl with | [_, _], _ => rfl) (fun vs H Q E h => ?_) (fun f cdv A outer s H vs Q E hr h => ?_)
  · obtain ⟨a, d, p, ws, rfl, _⟩ := h
    rfl
  · obtain ⟨a, d, p, ws, rfl, hh, e, ne, wo, q⟩ := h
    have pa := list_ne_hand hh e
    have hpos : 0 < ws.length := List.length_pos_iff.mpr ne
    have hwl := wo.len
    refine ⟨_, (pss_cons (ps_asg (pe_lst (pa_cons pe_str (pa_cons pe_str (pa_cons pe_str (pa_cons pe_str (pa_cons pe_str (pa_cons pe_str (pa_cons pe_str (pa_cons pe_str (pa_cons pe_str (pa_cons pe_str (pa_cons pe_str (pa_cons pe_str (pa_cons pe_str (pa_cons pe_str (pa_cons pe_str (pa_cons pe_str (pa_cons pe_str (pa_cons pe_str pa_nil))))))))))))))))))) (pg_name (i := 2) sc_law_spoilt.nd rfl (Or.inl rfl))) (pss_cons (ps_asg (pe_op op_add3 (pv 2) (pe_lst (pa_cons pe_str (pa_cons pe_str (pa_cons pe_str pa_nil))))) (pg_name (i := 2) sc_law_spoilt.nd rfl (Or.inl rfl))) (pss_cons (ps_asg (C8.pe_c (k_law_take T) hr (by first | decide | omega) (by rfl) (pa_cons (pv 0) (pa_cons (pe_callB (call_len2 : CallR _ _ (rLn K)) (by rfl) T.z_len (by decide +kernel) (pa_cons (pv 1) pa_nil)) pa_nil))) (pg_name (i := 3) sc_law_spoilt.nd rfl (Or.inl rfl))) (pss_cons (ps_asg (C8.pe_c (k_law_take T) hr (by first | decide | omega) (by rfl) (pa_cons (pv 0) (pa_cons pe_int pa_nil))) (pg_name (i := 4) sc_law_spoilt.nd rfl (Or.inl rfl))) (pss_cons (ps_asg (pe_ix (ix_seq : IxR _ (rIx K)) (pv 2) (C8.pe_c (k_law_take T) hr (by first | decide | omega) (by rfl) (pa_cons (pv 0) (pa_cons (pe_callB (call_len2 : CallR _ _ (rLn K)) (by rfl) T.z_len (by decide +kernel) (pa_cons (pv 2) pa_nil)) pa_nil))) (fun _ _ => rfl)) (pg_name (i := 5) sc_law_spoilt.nd rfl (Or.inl rfl))) (C8.pss_cut (ps_if (pt_cmpR (op_eq2 hr.units : OpR _ _ (rEq2 K)) (C8.pe_c (k_law_take T) hr (by first | decide | omega) (by rfl) (pa_cons (pv 0) (pa_cons pe_int pa_nil))) pe_int (nomark _)) (pss_one (ps_asg (pe_ix (ix_seq : IxR _ (rIx K)) (pe_c0 (k_law_reserved T) hr (by first | decide | omega) (by rfl)) (C8.pe_c (k_law_take T) hr (by first | decide | omega) (by rfl) (pa_cons (pv 0) (pa_cons pe_int pa_nil))) (fun _ _ => rfl)) (pg_name (i := 5) sc_law_spoilt.nd rfl (Or.inl rfl)))) pss_nil) (pss_cons (ps_if (pt_cmpR (op_eq2 hr.units : OpR _ _ (rEq2 K)) (pv 4) pe_int (nomark _)) (pss_one (ps_ret (pe_op op_add3 (pe_slice (sl_2 : SlR _ (rSl2 K)) (pv 1) po_none (po_some (pv 3))) (pe_slice (sl_2 : SlR _ (rSl2 K)) (pv 1) (po_some (pe_op op_add3 (pv 3) pe_int)) po_none)))) pss_nil) (pss_cons (ps_if (pt_cmpR (op_eq2 hr.units : OpR _ _ (rEq2 K)) (pv 4) pe_int (nomark _)) (pss_one (ps_ret (pe_op op_add3 (pe_op op_add3 (pe_slice (sl_2 : SlR _ (rSl2 K)) (pv 1) po_none (po_some (pv 3))) (pe_lst (pa_cons (pe_ix (ix_seq : IxR _ (rIx K)) (pv 1) (pv 3) (fun _ _ => rfl)) pa_nil))) (pe_slice (sl_2 : SlR _ (rSl2 K)) (pv 1) (po_some (pv 3)) po_none)))) pss_nil) (pss_cons (ps_if (pt_cmpR (op_eq2 hr.units : OpR _ _ (rEq2 K)) (pv 4) pe_int (nomark _)) (pss_one (ps_ret (pe_op op_add3 (pe_op op_add3 (pe_slice (sl_2 : SlR _ (rSl2 K)) (pv 1) po_none (po_some (pv 3))) (pe_lst (pa_cons (pv 5) pa_nil))) (pe_slice (sl_2 : SlR _ (rSl2 K)) (pv 1) (po_some (pv 3)) po_none)))) pss_nil) (pss_cons (ps_if (pt_cmpR (op_eq2 hr.units : OpR _ _ (rEq2 K)) (pv 4) pe_int (nomark _)) (pss_one (ps_ret (pe_op op_add3 (pe_op op_add3 (pe_slice (sl_2 : SlR _ (rSl2 K)) (pv 1) po_none (po_some (pv 3))) (pe_lst (pa_cons (pv 5) pa_nil))) (pe_slice (sl_2 : SlR _ (rSl2 K)) (pv 1) (po_some (pe_op op_add3 (pv 3) pe_int)) po_none)))) pss_nil) (pss_cons (ps_asg (C8.pe_c (k_law_take T) hr (by first | decide | omega) (by rfl) (pa_cons (pv 0) (pa_cons (pe_callB (call_len2 : CallR _ _ (rLn K)) (by rfl) T.z_len (by decide +kernel) (pa_cons (pv 1) pa_nil)) pa_nil))) (pg_name (i := 6) sc_law_spoilt.nd rfl (Or.inl rfl))) (pss_cons (ps_asg (pe_callTy (call_lst : CallR _ _ (rLst K)) (by rfl) T.z_list (by decide +kernel) (pa_cons (pv 1) pa_nil)) (pg_name (i := 7) sc_law_spoilt.nd rfl (Or.inl rfl))) (pss_cons (ps_asg (pe_ix (ix_seq : IxR _ (rIx K)) (pv 1) (pv 6) (fun _ _ => rfl)) (pg_sub (pv 7) (pv 3) set_list)) (pss_cons (ps_asg (pe_ix (ix_seq : IxR _ (rIx K)) (pv 1) (pv 3) (fun _ _ => rfl)) (pg_sub (pv 7) (pv 6) set_list)) (pss_one (ps_ret (pv 7))))))))))))))))), ?_⟩
    walk_at "ss"
    refine n_obj (lz (by simp)) fun p1 H1 n1 s1 e1 => ?_
    walk_at "ss"
    refine n_obj (lz (by simp)) fun p2 H2 n2 s2 e2 => ?_
    refine o_addL (s2 _ _ e1) e2 (lz (by simp)) fun p3 H3 n3 s3 e3 => ?_
    have s03 := (s1.trans s2).trans s3
    have hh3 := hh.same s03
    have n03 := (s1.trans s2).free n3
    have nn3 := hh.new n03
    obtain ⟨xs, exs, oxs, lxs⟩ : ∃ xs : List V, H3 p3 = some (.lst xs) ∧ xs.all oddB = true ∧ xs.length = 21 := ⟨_, e3, by decide +kernel, rfl⟩
    clear e3
    walk_at "ss"
    refine b_lenL (lst_of (s03 _ _ e)) ?_
    rw [List.length_map]
    walk_at "ss"
    refine ⟨a, d, _, rfl, hh3, by omega, fun r H4 r0 r1 c4 hh4 => ?_⟩
    obtain ⟨j, hj⟩ : ∃ j : Nat, r = (j : Int) := ⟨r.toNat, by omega⟩
    subst hj
    have hj : j < ws.length := by omega
    walk_at "ss"
    refine ⟨a, d, _, rfl, hh4, by omega, fun kind H5 k0 k1 c5 hh5 => ?_⟩
    have x5 := c5.at (c4.at exs nn3.1.symm) nn3.1.symm
    walk_at "ss"
    refine b_lenL (lst_of x5) ?_
    rw [lxs]
    walk_at "ss"
    refine ⟨a, d, _, rfl, hh5, by decide, fun r2 H6 r3 r4 c6 hh6 => ?_⟩
    obtain ⟨j2, hj2⟩ : ∃ j : Nat, r2 = (j : Int) := ⟨r2.toNat, by omega⟩
    subst hj2
    obtain ⟨y, gy, ly, ty⟩ := odd_item oxs (j := j2) (by omega)
    refine o_ixL (lst_of (c6.at x5 nn3.1.symm)) (atI_nat gy) ?_
    have k6 : Keep a H H6 := ((s03.keep.trans c4.keep).trans c5.keep).trans c6.keep
    walk_at "ss"
    refine s_cut (fun σ H' => HandAt H' a d ∧ Keep a H H' ∧ ∃ y : Str, y.length ≤ 13 ∧ Tok y ∧ σ = [some (.ref a), some (.ref p), some (.ref p3), some (.int j), some (.int kind), some (.str y), none, none]) ?_ (fun σ' H8 hM => ?_)
    · walk_at "ss"
      refine ⟨a, d, _, rfl, hh6, by omega, fun r5 H7 r6 r7 c7 hh7 => ?_⟩
      have k7 : Keep a H H7 := k6.trans c7.keep
      walk_at "ss"
      refine o_eqS rfl ?_
      walk_at "ss"
      refine ite2 (fun e => ?_) (fun e => ?_)
      · walk_at "ss"
        refine ⟨rfl, fun p8 H8 s8 n8 e8 => ?_⟩
        have nn8 := hh7.new n8
        walk_at "ss"
        refine ⟨a, d, _, rfl, hh7.same s8, by omega, fun r8 H9 r9 r10 c9 hh9 => ?_⟩
        obtain ⟨j3, hj3⟩ : ∃ j : Nat, r8 = (j : Int) := ⟨r8.toNat, by omega⟩
        subst hj3
        obtain ⟨y3, gy3, ly3, ty3⟩ := odd_item (xs := c_RESERVED) (by decide +kernel) (j := j3) (show j3 < 27 by omega)
        refine o_ixL (lst_of (c9.at e8 nn8.1.symm)) (atI_nat gy3) ?_
        walk_at "ss"
        exact ⟨hh9, (k7.trans s8.keep).trans c9.keep, y3, ly3, ty3, rfl⟩
      · walk_at "ss"
        exact ⟨hh7, k7, y, ly, ty, rfl⟩
    · obtain ⟨hh8, k8, y, ly, ty, rfl⟩ := hM
      have e8 := k8 p _ pa e
      walk_at "ss"
      refine o_eqS rfl ?_
      walk_at "ss"
      refine ite2 (fun e => ?_) (fun e => ?_)
      · walk_at "ss"
        refine l_L (lst_of e8) fun p9 H9 n9 s9 e9 => ?_
        rw [cut_take] at e9
        walk_at "ss"
        refine l_L (lst_of (s9 _ _ e8)) fun p10 H10 n10 s10 e10 => ?_
        rw [show (j : Int) + 1 = ((j + 1 : Nat) : Int) from rfl, cut_drop] at e10
        refine o_addL (s10 _ _ e9) e10 (Nat.le_of_lt (big1 (by simp; omega))) fun p11 H11 n11 s11 e11 => ?_
        have s811 := (s9.trans s10).trans s11
        refine q p11 (ws.take j ++ ws.drop (j + 1)) H11 (by rw [e11, List.map_append]) (wo.of ty ly (by simp; omega) fun x hx => ?_) (k8.trans s811.keep) (hh8.same s811)
        rcases List.mem_append.mp hx with hx | hx
        · exact .inl (List.mem_of_mem_take hx)
        · exact .inl (List.mem_of_mem_drop hx)
      · walk_at "ss"
        refine o_eqS rfl ?_
        walk_at "ss"
        refine ite2 (fun e => ?_) (fun e => ?_)
        · walk_at "ss"
          refine l_L (lst_of e8) fun p9 H9 n9 s9 e9 => ?_
          rw [cut_take] at e9
          walk_at "ss"
          refine o_ixL (lst_of (s9 _ _ e8)) (atI_of (j := j) (v := .str ws[j]) rfl (by rw [List.getElem?_map, List.getElem?_eq_getElem hj]; rfl)) ?_
          walk_at "ss"
          refine n_obj (lz (by simp)) fun p10 H10 n10 s10 e10 => ?_
          refine o_addL (s10 _ _ e9) e10 (Nat.le_of_lt (big1 (by simp; omega))) fun p11 H11 n11 s11 e11 => ?_
          walk_at "ss"
          refine l_L (lst_of (s11 _ _ (s10 _ _ (s9 _ _ e8)))) fun p12 H12 n12 s12 e12 => ?_
          rw [cut_drop] at e12
          refine o_addL (s12 _ _ e11) e12 (Nat.le_of_lt (big1 (by simp; omega))) fun p13 H13 n13 s13 e13 => ?_
          have s813 := (((s9.trans s10).trans s11).trans s12).trans s13
          refine q p13 (ws.take j ++ [ws[j]] ++ ws.drop j) H13 (by rw [e13, List.map_append, List.map_append]; rfl) (wo.of ty ly (by simp; omega) fun x hx => ?_) (k8.trans s813.keep) (hh8.same s813)
          rcases List.mem_append.mp hx with hx | hx
          · rcases List.mem_append.mp hx with hx | hx
            · exact .inl (List.mem_of_mem_take hx)
            · exact .inl (by rw [List.mem_singleton.mp hx]; exact List.getElem_mem hj)
          · exact .inl (List.mem_of_mem_drop hx)
        · walk_at "ss"
          refine o_eqS rfl ?_
          walk_at "ss"
          refine ite2 (fun e => ?_) (fun e => ?_)
          · walk_at "ss"
            refine l_L (lst_of e8) fun p9 H9 n9 s9 e9 => ?_
            rw [cut_take] at e9
            walk_at "ss"
            refine n_obj (lz (by simp)) fun p10 H10 n10 s10 e10 => ?_
            refine o_addL (s10 _ _ e9) e10 (Nat.le_of_lt (big1 (by simp; omega))) fun p11 H11 n11 s11 e11 => ?_
            walk_at "ss"
            refine l_L (lst_of (s11 _ _ (s10 _ _ (s9 _ _ e8)))) fun p12 H12 n12 s12 e12 => ?_
            rw [cut_drop] at e12
            refine o_addL (s12 _ _ e11) e12 (Nat.le_of_lt (big1 (by simp; omega))) fun p13 H13 n13 s13 e13 => ?_
            have s813 := (((s9.trans s10).trans s11).trans s12).trans s13
            refine q p13 (ws.take j ++ [y] ++ ws.drop j) H13 (by rw [e13, List.map_append, List.map_append]; rfl) (wo.of ty ly (by simp; omega) fun x hx => ?_) (k8.trans s813.keep) (hh8.same s813)
            rcases List.mem_append.mp hx with hx | hx
            · rcases List.mem_append.mp hx with hx | hx
              · exact .inl (List.mem_of_mem_take hx)
              · exact .inr (List.mem_singleton.mp hx)
            · exact .inl (List.mem_of_mem_drop hx)
          · walk_at "ss"
            refine o_eqS rfl ?_
            walk_at "ss"
            refine ite2 (fun e => ?_) (fun e => ?_)
            · walk_at "ss"
              refine l_L (lst_of e8) fun p9 H9 n9 s9 e9 => ?_
              rw [cut_take] at e9
              walk_at "ss"
              refine n_obj (lz (by simp)) fun p10 H10 n10 s10 e10 => ?_
              refine o_addL (s10 _ _ e9) e10 (Nat.le_of_lt (big1 (by simp; omega))) fun p11 H11 n11 s11 e11 => ?_
              walk_at "ss"
              refine l_L (lst_of (s11 _ _ (s10 _ _ (s9 _ _ e8)))) fun p12 H12 n12 s12 e12 => ?_
              rw [show (j : Int) + 1 = ((j + 1 : Nat) : Int) from rfl, cut_drop] at e12
              refine o_addL (s12 _ _ e11) e12 (Nat.le_of_lt (big1 (by simp; omega))) fun p13 H13 n13 s13 e13 => ?_
              have s813 := (((s9.trans s10).trans s11).trans s12).trans s13
              refine q p13 (ws.take j ++ [y] ++ ws.drop (j + 1)) H13 (by rw [e13, List.map_append, List.map_append]; rfl) (wo.of ty ly (by simp; omega) fun x hx => ?_) (k8.trans s813.keep) (hh8.same s813)
              rcases List.mem_append.mp hx with hx | hx
              · rcases List.mem_append.mp hx with hx | hx
                · exact .inl (List.mem_of_mem_take hx)
                · exact .inr (List.mem_singleton.mp hx)
              · exact .inl (List.mem_of_mem_drop hx)
            · walk_at "ss"
              refine b_lenL (lst_of e8) ?_
              rw [List.length_map]
              walk_at "ss"
              refine ⟨a, d, _, rfl, hh8, by omega, fun r9 H9 r10 r11 c9 hh9 => ?_⟩
              obtain ⟨j4, hj4⟩ : ∃ j : Nat, r9 = (j : Int) := ⟨r9.toNat, by omega⟩
              subst hj4
              have hj4 : j4 < ws.length := by omega
              have e9 := c9.at e8 pa
              walk_at "ss"
              refine b_lst (lst_of e9) fun p10 H10 n10 s10 e10 => ?_
              walk_at "ss"
              refine o_ixL (lst_of (s10 _ _ e9)) (atI_of (j := j4) (v := .str ws[j4]) rfl (by rw [List.getElem?_map, List.getElem?_eq_getElem hj4]; rfl)) ?_
              walk_at "ss"
              have np : p ≠ p10 := ne_of_none e9 n10
              have nn10 := hh9.new n10
              refine st_L e10 (j := j) (ixN_nat (by rw [List.length_map]; exact hj)) fun H11 c11 e11 => ?_
              walk_at "ss"
              refine o_ixL (lst_of (c11.at (s10 _ _ e9) np)) (atI_of (j := j) (v := .str ws[j]) rfl (by rw [List.getElem?_map, List.getElem?_eq_getElem hj]; rfl)) ?_
              walk_at "ss"
              refine st_L e11 (j := j4) (ixN_nat (by rw [List.length_set, List.length_map]; exact hj4)) fun H12 c12 e12 => ?_
              walk_at "ss"
              refine q p10 ((ws.set j ws[j4]).set j4 ws[j]) H12 (by rw [e12, List.map_set, List.map_set]) (wo.of ty ly (by simp) fun x hx => ?_) ((((k8.trans c9.keep).trans s10.keep).chg c11 ((k8.trans c9.keep).free n10 nn10.1.symm)).chg c12 ((k8.trans c9.keep).free n10 nn10.1.symm)) ((((hh9.same s10).chg c11 nn10.1 nn10.2)).chg c12 nn10.1 nn10.2)
              rcases List.mem_or_eq_of_mem_set hx with hx | hx
              · rcases List.mem_or_eq_of_mem_set hx with hx | hx
                · exact .inl hx
                · exact .inl (by rw [hx]; exact List.getElem_mem hj4)
              · exact .inl (by rw [hx]; exact List.getElem_mem hj)
end
end K03
namespace K03
open PySem PySem.Spec PyProof.Rows L2 Wy WM W3 W4 W5

/-- a list of what was read and the place behind it, or None -/
def LP (H : Hp) (v : V) (o : Option (PyData × Nat)) : Prop := match o with
  | none => v = .non
  | some (d, j) => ∃ a u, v = .ref a ∧ H a = some (.lst [u, .int (j : Int)]) ∧ Tp H u d
def spWsL (f : List Str → Nat → Option (PyData × Nat)) : Sp := fun vs H Q _ => ∃ (p : Addr) (ws : List Str) (i : Nat), vs = [.ref p, .int i] ∧ H p = some (.lst ((ws : List Str).map V.str)) ∧ SmallW ws ∧ ∀ v H', Same H H' → LP H' v (f ws i) → Q v H'
theorem spWsL_len {f : List Str → Nat → Option (PyData × Nat)} (vs : List V) (H : Hp) (Q : VK) (E : XK) (h : spWsL f vs H Q E) : vs.length = 2 := by
  obtain ⟨p, ws, i, rfl, _⟩ := h
  rfl
def iP (o : Option (Int × Nat)) : Option (PyData × Nat) := o.map fun q => (.int q.1, q.2)
def eP (o : Option (Ex × Nat)) : Option (PyData × Nat) := o.map fun q => (q.1.d, q.2)
theorem lp_mk {H : Hp} {a : Addr} {u : V} {d : PyData} {j : Nat} (e : H a = some (.lst [u, .int (j : Int)])) (t : Tp H u d) : LP H (.ref a) (some (d, j)) := ⟨a, u, rfl, e, t⟩
section
variable {P : Program} {w : World} {K : PySem.W.Frag} {mg : Str → Option Value} {base : Heap}
theorem k_law_signed (T : Tx w K mg) : C8.Cal P w K mg base 2 "_law_signed" (spWsL fun ws i => iP (takeSigned ws i)) [] := by
  refine cal_of (N := n_law_signed) T.d_law_signed sc_law_signed (fun _ _ F => F.bindsN fun _ _ _ _ _ _ us hl => match us, hl with | [_, _], _ => rfl) spWsL_len (fun f cdv A outer s H vs Q E hr h => ?_)
  obtain ⟨p, ws, i, rfl, e, sm, q⟩ := h
  dsimp only at q
  have hwl := sm.len
  refine ⟨_, (pss_cons (ps_if (PW.pt (pw_and (pt_cmpR op_lt (pv 1) (pe_callB (call_len2 : CallR _ _ (rLn K)) (by rfl) T.z_len (by decide +kernel) (pa_cons (pv 0) pa_nil)) (nomark _)) (pw_and1 (pt_tr (C8.pe_c (k_law_is_number T) hr (by first | decide | omega) (by rfl) (pa_cons (pe_ix (ix_seq : IxR _ (rIx K)) (pv 0) (pv 1) (fun _ _ => rfl)) pa_nil)) : PT _ _ (tTr K _))))) (pss_one (ps_ret (pe_lst (pa_cons (pe_callTy call_int2 (by rfl) T.z_int (by decide +kernel) (pa_cons (pe_ix (ix_seq : IxR _ (rIx K)) (pv 0) (pv 1) (fun _ _ => rfl)) pa_nil)) (pa_cons (pe_op op_add3 (pv 1) pe_int) pa_nil))))) pss_nil) (pss_cons (ps_if (PW.pt (pw_and (pt_cmpR op_lt (pe_op op_add3 (pv 1) pe_int) (pe_callB (call_len2 : CallR _ _ (rLn K)) (by rfl) T.z_len (by decide +kernel) (pa_cons (pv 0) pa_nil)) (nomark _)) (pw_and (pt_cmpR (op_eq2 hr.units : OpR _ _ (rEq2 K)) (pe_ix (ix_seq : IxR _ (rIx K)) (pv 0) (pv 1) (fun _ _ => rfl)) pe_str (nomark _)) (pw_and1 (pt_tr (C8.pe_c (k_law_is_number T) hr (by first | decide | omega) (by rfl) (pa_cons (pe_ix (ix_seq : IxR _ (rIx K)) (pv 0) (pe_op op_add3 (pv 1) pe_int) (fun _ _ => rfl)) pa_nil)) : PT _ _ (tTr K _)))))) (pss_one (ps_ret (pe_lst (pa_cons (pe_un un_neg (pe_callTy call_int2 (by rfl) T.z_int (by decide +kernel) (pa_cons (pe_ix (ix_seq : IxR _ (rIx K)) (pv 0) (pe_op op_add3 (pv 1) pe_int) (fun _ _ => rfl)) pa_nil))) (pa_cons (pe_op op_add3 (pv 1) pe_int) pa_nil))))) pss_nil) (pss_one (ps_ret pe_non)))), ?_⟩
  unfold takeSigned at q
  walk_at "ss"
  refine b_lenL (lst_of e) ?_
  rw [List.length_map]
  walk_at "ss"
  by_cases hi : i < ws.length
  · rw [decide_eq_true (show (i : Int) < (ws.length : Int) by omega)]
    refine iteT ?_
    walk_at "ss"
    refine o_ixL (lst_of e) (strs_at hi) ?_
    walk_at "ss"
    refine ⟨_, rfl, sm.at6 _, fun H1 s1 => ?_⟩
    have e1 := s1 _ _ e
    walk_at "ss"
    by_cases hn : numberW (wordAt ws i) = true
    · rw [if_pos hn] at q
      rw [hn]
      refine iteT ?_
      walk_at "ss"
      refine o_ixL (lst_of e1) (strs_at hi) ?_
      walk_at "ss"
      refine b_intS (number_int hn).1 (number_int hn).2 ?_
      walk_at "ss"
      refine n_obj (lz (by simp)) fun p2 H2 n2 s2 e2 => ?_
      exact q _ H2 (s1.trans s2) (lp_mk (j := i + 1) e2 (.int _))
    · rw [if_neg hn] at q
      rw [Bool.eq_false_iff.mpr hn]
      refine iteF ?_
      walk_at "ss"
      refine b_lenL (lst_of e1) ?_
      rw [List.length_map]
      walk_at "ss"
      by_cases hi2 : i + 1 < ws.length
      · rw [decide_eq_true (show (i : Int) + 1 < (ws.length : Int) by omega)]
        refine iteT ?_
        walk_at "ss"
        refine o_ixL (lst_of e1) (strs_at hi) ?_
        walk_at "ss"
        refine o_eqS rfl ?_
        walk_at "ss"
        by_cases hm : wordAt ws i = "-"
        · rw [show decide (V.str (wordAt ws i) = V.str ("-" : Str)) = true from decide_eq_true (congrArg V.str hm)]
          refine iteT ?_
          walk_at "ss"
          refine o_ixL (lst_of e1) (strs_at (i := i + 1) hi2) ?_
          walk_at "ss"
          refine ⟨_, rfl, sm.at6 _, fun H2 s2 => ?_⟩
          have e2 := s2 _ _ e1
          walk_at "ss"
          by_cases hn2 : numberW (wordAt ws (i + 1)) = true
          · rw [if_pos ⟨hm, hn2⟩] at q
            rw [hn2]
            refine iteT ?_
            walk_at "ss"
            refine o_ixL (lst_of e2) (strs_at (i := i + 1) hi2) ?_
            walk_at "ss"
            refine b_intS (number_int hn2).1 (number_int hn2).2 ?_
            walk_at "ss"
            refine n_obj (lz (by simp)) fun p3 H3 n3 s3 e3 => ?_
            exact q _ H3 ((s1.trans s2).trans s3) (lp_mk (j := i + 2) e3 (.int _))
          · rw [if_neg (fun h => hn2 h.2)] at q
            rw [Bool.eq_false_iff.mpr hn2]
            refine iteF ?_
            walk_at "ss"
            exact q _ H2 (s1.trans s2) rfl
        · rw [if_neg (fun h => hm h.1)] at q
          rw [show decide (V.str (wordAt ws i) = V.str ("-" : Str)) = false from decide_eq_false (fun h => hm (V.str.inj h))]
          refine iteF ?_
          refine iteF ?_
          walk_at "ss"
          exact q _ H1 s1 rfl
      · rw [wordAt_out (i := i + 1) (by omega), if_neg (fun h => absurd h.2 (by rw [no_num]; simp))] at q
        rw [decide_eq_false (show ¬ (i : Int) + 1 < (ws.length : Int) by omega)]
        refine iteF ?_
        refine iteF ?_
        walk_at "ss"
        exact q _ H1 s1 rfl
  · rw [wordAt_out (i := i) (by omega), no_num, if_neg Bool.false_ne_true, if_neg (fun h => absurd h.1 (by decide +kernel))] at q
    rw [decide_eq_false (show ¬ (i : Int) < (ws.length : Int) by omega)]
    refine iteF ?_
    refine iteF ?_
    walk_at "ss"
    refine b_lenL (lst_of e) ?_
    rw [List.length_map]
    walk_at "ss"
    rw [decide_eq_false (show ¬ (i : Int) + 1 < (ws.length : Int) by omega)]
    refine iteF ?_
    refine iteF ?_
    walk_at "ss"
    exact q _ H (Same.refl H) rfl
theorem k_law_read_plus (T : Tx w K mg) : C8.Cal P w K mg base 2 "_law_read_plus" (spWsL fun ws i => iP (takePlus ws i)) [] := by
  refine cal_of (N := n_law_read_plus) T.d_law_read_plus sc_law_read_plus (fun _ _ F => F.bindsN fun _ _ _ _ _ _ us hl => match us, hl with | [_, _], _ => rfl) spWsL_len (fun f cdv A outer s H vs Q E hr h => ?_)
  obtain ⟨p, ws, i, rfl, e, sm, q⟩ := h
  dsimp only at q
  have hwl := sm.len
  refine ⟨_, (pss_cons (ps_if (PW.pt (pw_and (pt_cmpR op_lt (pv 1) (pe_callB (call_len2 : CallR _ _ (rLn K)) (by rfl) T.z_len (by decide +kernel) (pa_cons (pv 0) pa_nil)) (nomark _)) (pw_and1 (pt_cmpR (op_in2 : OpR _ _ (rIn2 K)) (pe_ix (ix_seq : IxR _ (rIx K)) (pv 0) (pv 1) (fun _ _ => rfl)) (pe_lst (pa_cons pe_str (pa_cons pe_str pa_nil))) (by rfl))))) (pss_cons (ps_if (PW.pt (pw_or (pt_cmpR op_ge (pe_op op_add3 (pv 1) pe_int) (pe_callB (call_len2 : CallR _ _ (rLn K)) (by rfl) T.z_len (by decide +kernel) (pa_cons (pv 0) pa_nil)) (nomark _)) (pw_or1 (pt_not (pt_tr (C8.pe_c (k_law_is_number T) hr (by first | decide | omega) (by rfl) (pa_cons (pe_ix (ix_seq : IxR _ (rIx K)) (pv 0) (pe_op op_add3 (pv 1) pe_int) (fun _ _ => rfl)) pa_nil)) : PT _ _ (tTr K _)))))) (pss_one (ps_ret pe_non)) pss_nil) (pss_one (ps_ret (pe_lst (pa_cons (pe_callTy call_int2 (by rfl) T.z_int (by decide +kernel) (pa_cons (pe_op op_add3 (pe_ix (ix_seq : IxR _ (rIx K)) (pv 0) (pv 1) (fun _ _ => rfl)) (pe_ix (ix_seq : IxR _ (rIx K)) (pv 0) (pe_op op_add3 (pv 1) pe_int) (fun _ _ => rfl))) pa_nil)) (pa_cons (pe_op op_add3 (pv 1) pe_int) pa_nil)))))) pss_nil) (pss_one (ps_ret (pe_lst (pa_cons pe_int (pa_cons (pv 1) pa_nil)))))), ?_⟩
  unfold takePlus at q
  walk_at "ss"
  refine b_lenL (lst_of e) ?_
  rw [List.length_map]
  walk_at "ss"
  by_cases hi : i < ws.length
  · rw [decide_eq_true (show (i : Int) < (ws.length : Int) by omega)]
    refine iteT ?_
    walk_at "ss"
    refine o_ixL (lst_of e) (strs_at hi) ?_
    walk_at "ss"
    refine n_obj (lz (by simp)) fun p1 H1 n1 s1 e1 => ?_
    have e1' := s1 _ _ e
    refine o_inL (lst_of e1) rfl (by decide +kernel) ?_
    walk_at "ss"
    have hin : inV (.str (wordAt ws i)) [.str "+", .str "-"] = decide (wordAt ws i = "+" ∨ wordAt ws i = "-") := by
      show ((("+" : Str) == wordAt ws i) || ((("-" : Str) == wordAt ws i) || false)) = _
      rw [Bool.or_false, Bool.eq_iff_iff, Bool.or_eq_true, beq_iff_eq, beq_iff_eq, decide_eq_true_iff]
      exact ⟨fun h => h.imp Eq.symm Eq.symm, fun h => h.imp Eq.symm Eq.symm⟩
    by_cases hs : wordAt ws i = "+" ∨ wordAt ws i = "-"
    · rw [if_pos hs] at q
      rw [hin, decide_eq_true hs]
      refine iteT ?_
      walk_at "ss"
      refine b_lenL (lst_of e1') ?_
      rw [List.length_map]
      walk_at "ss"
      by_cases hi2 : i + 1 < ws.length
      · rw [decide_eq_false (show ¬ (ws.length : Int) ≤ (i : Int) + 1 by omega)]
        refine iteF ?_
        walk_at "ss"
        refine o_ixL (lst_of e1') (strs_at (i := i + 1) hi2) ?_
        walk_at "ss"
        refine ⟨_, rfl, sm.at6 _, fun H2 s2 => ?_⟩
        have e2 := s2 _ _ e1'
        walk_at "ss"
        by_cases hn2 : numberW (wordAt ws (i + 1)) = true
        · rw [if_pos hn2] at q
          rw [hn2]
          refine iteF ?_
          walk_at "ss"
          refine o_ixL (lst_of e2) (strs_at hi) ?_
          walk_at "ss"
          refine o_ixL (lst_of e2) (strs_at (i := i + 1) hi2) ?_
          have lw := (number_parts hn2).2.1
          refine o_addS (lz (by have h1 : (wordAt ws i).length = 1 := by { rcases hs with h | h <;> (rw [h]; rfl) }; omega)) ?_
          walk_at "ss"
          by_cases hp : wordAt ws i = "+"
          · rw [if_pos hp] at q
            rw [hp]
            refine b_intS (plus_int hn2).1 (plus_int hn2).2 ?_
            walk_at "ss"
            refine n_obj (lz (by simp)) fun p3 H3 n3 s3 e3 => ?_
            exact q _ H3 ((s1.trans s2).trans s3) (lp_mk (j := i + 2) e3 (.int _))
          · rw [if_neg hp] at q
            rw [hs.resolve_left hp]
            refine b_intS (minus_int hn2).1 (minus_int hn2).2 ?_
            walk_at "ss"
            refine n_obj (lz (by simp)) fun p3 H3 n3 s3 e3 => ?_
            exact q _ H3 ((s1.trans s2).trans s3) (lp_mk (j := i + 2) e3 (.int _))
        · rw [if_neg hn2] at q
          rw [Bool.eq_false_iff.mpr hn2]
          refine iteT ?_
          walk_at "ss"
          exact q _ H2 (s1.trans s2) rfl
      · rw [wordAt_out (i := i + 1) (by omega), no_num, if_neg Bool.false_ne_true] at q
        rw [decide_eq_true (show (ws.length : Int) ≤ (i : Int) + 1 by omega)]
        refine iteT ?_
        refine iteT ?_
        walk_at "ss"
        exact q _ H1 s1 rfl
    · rw [if_neg hs] at q
      rw [hin, decide_eq_false hs]
      refine iteF ?_
      walk_at "ss"
      refine n_obj (lz (by simp)) fun p3 H3 n3 s3 e3 => ?_
      exact q _ H3 (s1.trans s3) (lp_mk (j := i) e3 (.int _))
  · have hs : ¬ (wordAt ws i = "+" ∨ wordAt ws i = "-") := by
      rw [wordAt_out (by omega)]
      decide +kernel
    rw [if_neg hs] at q
    rw [decide_eq_false (show ¬ (i : Int) < (ws.length : Int) by omega)]
    refine iteF ?_
    refine iteF ?_
    walk_at "ss"
    refine n_obj (lz (by simp)) fun p3 H3 n3 s3 e3 => ?_
    exact q _ H3 s3 (lp_mk (j := i) e3 (.int _))
theorem signed_name {ws : List Str} {i : Nat} (h : nameW (wordAt ws i) = true) : takeSigned ws i = none := by
  unfold takeSigned
  rw [name_not_number h, if_neg Bool.false_ne_true, if_neg (fun h2 => name_ne h (y := "-") (by decide +kernel) h2.1)]
theorem k_law_read_plain (T : Tx w K mg) : C8.Cal P w K mg base 3 "_law_read_plain" (spWsL fun ws i => eP (takePlain ws i)) [] := by
  refine cal_of (N := n_law_read_plain) T.d_law_read_plain sc_law_read_plain (fun _ _ F => F.bindsN fun _ _ _ _ _ _ us hl => match us, hl with | [_, _], _ => rfl) spWsL_len (fun f cdv A outer s H vs Q E hr h => ?_)
  obtain ⟨p, ws, i, rfl, e, sm, q⟩ := h
  dsimp only at q
  have hwl := sm.len
  refine ⟨_, (pss_cons (ps_asg (C8.pe_c (k_law_signed T) hr (by first | decide | omega) (by rfl) (pa_cons (pv 0) (pa_cons (pv 1) pa_nil))) (pg_name (i := 2) sc_law_read_plain.nd rfl (Or.inl rfl))) (pss_cons (ps_if (pt_cmpR op_ntN2 (pv 2) pe_non (nomark _)) (pss_one (ps_ret (pe_lst (pa_cons (pe_tup (pa_cons pe_str (pa_cons (pe_ix (ix_seq : IxR _ (rIx K)) (pv 2) pe_int (fun _ _ => rfl)) pa_nil))) (pa_cons (pe_ix (ix_seq : IxR _ (rIx K)) (pv 2) pe_int (fun _ _ => rfl)) pa_nil))))) pss_nil) (pss_cons (ps_if (PW.pt (pw_or (pt_cmpR op_ge (pv 1) (pe_callB (call_len2 : CallR _ _ (rLn K)) (by rfl) T.z_len (by decide +kernel) (pa_cons (pv 0) pa_nil)) (nomark _)) (pw_or1 (pt_not (pt_tr (C8.pe_c (k_law_is_name T) hr (by first | decide | omega) (by rfl) (pa_cons (pe_ix (ix_seq : IxR _ (rIx K)) (pv 0) (pv 1) (fun _ _ => rfl)) pa_nil)) : PT _ _ (tTr K _)))))) (pss_one (ps_ret pe_non)) pss_nil) (pss_cons (ps_asg (C8.pe_c (k_law_read_plus T) hr (by first | decide | omega) (by rfl) (pa_cons (pv 0) (pa_cons (pe_op op_add3 (pv 1) pe_int) pa_nil))) (pg_name (i := 2) sc_law_read_plain.nd rfl (Or.inl rfl))) (pss_cons (ps_if (pt_cmpR op_isN2 (pv 2) pe_non (nomark _)) (pss_one (ps_ret pe_non)) pss_nil) (pss_one (ps_ret (pe_lst (pa_cons (pe_tup (pa_cons pe_str (pa_cons (pe_ix (ix_seq : IxR _ (rIx K)) (pv 0) (pv 1) (fun _ _ => rfl)) (pa_cons (pe_ix (ix_seq : IxR _ (rIx K)) (pv 2) pe_int (fun _ _ => rfl)) pa_nil)))) (pa_cons (pe_ix (ix_seq : IxR _ (rIx K)) (pv 2) pe_int (fun _ _ => rfl)) pa_nil)))))))))), ?_⟩
  unfold takePlain at q
  walk_at "ss"
  refine ⟨p, ws, i, rfl, e, sm, fun v H1 s1 t1 => ?_⟩
  dsimp only at t1
  have e1 := s1 _ _ e
  by_cases hn : nameW (wordAt ws i) = true
  · rw [signed_name hn] at t1
    rw [if_pos hn] at q
    obtain rfl : v = .non := t1
    have hi := name_lt hn
    walk_at "ss"
    refine iteF ?_
    walk_at "ss"
    refine b_lenL (lst_of e1) ?_
    rw [List.length_map]
    walk_at "ss"
    rw [decide_eq_false (show ¬ (ws.length : Int) ≤ (i : Int) by omega)]
    refine iteF ?_
    walk_at "ss"
    refine o_ixL (lst_of e1) (strs_at hi) ?_
    walk_at "ss"
    refine ⟨_, rfl, sm.at6 _, fun H2 s2 => ?_⟩
    have e2 := s2 _ _ e1
    walk_at "ss"
    rw [hn]
    refine iteF ?_
    walk_at "ss"
    refine ⟨p, ws, i + 1, rfl, e2, sm, fun v H3 s3 t3 => ?_⟩
    dsimp only at t3
    have e3 := s3 _ _ e2
    cases hp : takePlus ws (i + 1) with
    | none =>
      rw [hp] at t3 q
      obtain rfl : v = .non := t3
      walk_at "ss"
      refine iteT ?_
      walk_at "ss"
      exact q _ H3 ((s1.trans s2).trans s3) rfl
    | some r =>
      obtain ⟨n, j⟩ := r
      rw [hp] at t3 q
      obtain ⟨a, u, rfl, ea, tu⟩ := t3
      obtain rfl := tp_int tu
      walk_at "ss"
      refine iteF ?_
      walk_at "ss"
      refine o_ixL (lst_of e3) (strs_at hi) ?_
      walk_at "ss"
      refine o_ixL (lst_of ea) (atI_nat (j := 0) rfl) ?_
      walk_at "ss"
      refine n_obj (lz (by simp)) fun p4 H4 n4 s4 e4 => ?_
      walk_at "ss"
      refine o_ixL (lst_of (s4 _ _ ea)) (atI_nat (j := 1) rfl) ?_
      walk_at "ss"
      refine n_obj (lz (by simp)) fun p5 H5 n5 s5 e5 => ?_
      exact q _ H5 ((((s1.trans s2).trans s3).trans s4).trans s5) (lp_mk e5 (.tup (s5 _ _ e4) (.cons (.str _) (.cons (.str _) (.cons (.int _) .nil)))))
  · rw [if_neg hn] at q
    cases hs : takeSigned ws i with
    | some r =>
      obtain ⟨n, j⟩ := r
      rw [hs] at t1 q
      obtain ⟨a, u, rfl, ea, tu⟩ := t1
      obtain rfl := tp_int tu
      walk_at "ss"
      refine iteT ?_
      walk_at "ss"
      refine o_ixL (lst_of ea) (atI_nat (j := 0) rfl) ?_
      walk_at "ss"
      refine n_obj (lz (by simp)) fun p4 H4 n4 s4 e4 => ?_
      walk_at "ss"
      refine o_ixL (lst_of (s4 _ _ ea)) (atI_nat (j := 1) rfl) ?_
      walk_at "ss"
      refine n_obj (lz (by simp)) fun p5 H5 n5 s5 e5 => ?_
      exact q _ H5 ((s1.trans s4).trans s5) (lp_mk e5 (pair_tp (s5 _ _ e4) (.str _) (.int _)))
    | none =>
      rw [hs] at t1 q
      obtain rfl : v = .non := t1
      walk_at "ss"
      refine iteF ?_
      walk_at "ss"
      refine b_lenL (lst_of e1) ?_
      rw [List.length_map]
      walk_at "ss"
      by_cases hi : i < ws.length
      · rw [decide_eq_false (show ¬ (ws.length : Int) ≤ (i : Int) by omega)]
        refine iteF ?_
        walk_at "ss"
        refine o_ixL (lst_of e1) (strs_at hi) ?_
        walk_at "ss"
        refine ⟨_, rfl, sm.at6 _, fun H2 s2 => ?_⟩
        walk_at "ss"
        rw [Bool.eq_false_iff.mpr hn]
        refine iteT ?_
        walk_at "ss"
        exact q _ H2 (s1.trans s2) rfl
      · rw [decide_eq_true (show (ws.length : Int) ≤ (i : Int) by omega)]
        refine iteT ?_
        refine iteT ?_
        walk_at "ss"
        exact q _ H1 s1 rfl
theorem k_law_read (T : Tx w K mg) : C8.Cal P w K mg base 4 "_law_read" (spWsL fun ws i => eP (takeExpr ws i)) [] := by
  refine cal_of (N := n_law_read) T.d_law_read sc_law_read (fun _ _ F => F.bindsN fun _ _ _ _ _ _ us hl => match us, hl with | [_, _], _ => rfl) spWsL_len (fun f cdv A outer s H vs Q E hr h => ?_)
  obtain ⟨p, ws, i, rfl, e, sm, q⟩ := h
  dsimp only at q
  have hwl := sm.len
  refine ⟨_, (pss_cons (ps_if (PW.pt (pw_or (pt_cmpR op_ge (pe_op op_add3 (pv 1) pe_int) (pe_callB (call_len2 : CallR _ _ (rLn K)) (by rfl) T.z_len (by decide +kernel) (pa_cons (pv 0) pa_nil)) (nomark _)) (pw_or (pt_not (pt_tr (C8.pe_c (k_law_is_name T) hr (by first | decide | omega) (by rfl) (pa_cons (pe_ix (ix_seq : IxR _ (rIx K)) (pv 0) (pv 1) (fun _ _ => rfl)) pa_nil)) : PT _ _ (tTr K _))) (pw_or1 (pt_cmpR (op_ne2 hr.units : OpR _ _ (rNe2 K)) (pe_ix (ix_seq : IxR _ (rIx K)) (pv 0) (pe_op op_add3 (pv 1) pe_int) (fun _ _ => rfl)) pe_str (nomark _)))))) (pss_one (ps_ret (C8.pe_c (k_law_read_plain T) hr (by first | decide | omega) (by rfl) (pa_cons (pv 0) (pa_cons (pv 1) pa_nil))))) pss_nil) (pss_cons (ps_asg (C8.pe_c (k_law_read_plain T) hr (by first | decide | omega) (by rfl) (pa_cons (pv 0) (pa_cons (pe_op op_add3 (pv 1) pe_int) pa_nil))) (pg_name (i := 2) sc_law_read.nd rfl (Or.inl rfl))) (pss_cons (ps_if (PW.pt (pw_or (pt_cmpR op_isN2 (pv 2) pe_non (nomark _)) (pw_or (pt_cmpR op_ge (pe_ix (ix_seq : IxR _ (rIx K)) (pv 2) pe_int (fun _ _ => rfl)) (pe_callB (call_len2 : CallR _ _ (rLn K)) (by rfl) T.z_len (by decide +kernel) (pa_cons (pv 0) pa_nil)) (nomark _)) (pw_or1 (pt_cmpR (op_ne2 hr.units : OpR _ _ (rNe2 K)) (pe_ix (ix_seq : IxR _ (rIx K)) (pv 0) (pe_ix (ix_seq : IxR _ (rIx K)) (pv 2) pe_int (fun _ _ => rfl)) (fun _ _ => rfl)) pe_str (nomark _)))))) (pss_one (ps_ret pe_non)) pss_nil) (pss_cons (ps_asg (C8.pe_c (k_law_read_plus T) hr (by first | decide | omega) (by rfl) (pa_cons (pv 0) (pa_cons (pe_op op_add3 (pe_ix (ix_seq : IxR _ (rIx K)) (pv 2) pe_int (fun _ _ => rfl)) pe_int) pa_nil))) (pg_name (i := 3) sc_law_read.nd rfl (Or.inl rfl))) (pss_cons (ps_if (pt_cmpR op_isN2 (pv 3) pe_non (nomark _)) (pss_one (ps_ret pe_non)) pss_nil) (pss_one (ps_ret (pe_lst (pa_cons (pe_tup (pa_cons pe_str (pa_cons (pe_ix (ix_seq : IxR _ (rIx K)) (pv 0) (pv 1) (fun _ _ => rfl)) (pa_cons (pe_ix (ix_seq : IxR _ (rIx K)) (pv 2) pe_int (fun _ _ => rfl)) (pa_cons (pe_ix (ix_seq : IxR _ (rIx K)) (pv 3) pe_int (fun _ _ => rfl)) pa_nil))))) (pa_cons (pe_ix (ix_seq : IxR _ (rIx K)) (pv 3) pe_int (fun _ _ => rfl)) pa_nil)))))))))), ?_⟩
  unfold takeExpr at q
  walk_at "ss"
  refine b_lenL (lst_of e) ?_
  rw [List.length_map]
  walk_at "ss"
  by_cases hi2 : i + 1 < ws.length
  · have hi : i < ws.length := by omega
    rw [decide_eq_false (show ¬ (ws.length : Int) ≤ (i : Int) + 1 by omega)]
    refine iteF ?_
    walk_at "ss"
    refine o_ixL (lst_of e) (strs_at hi) ?_
    walk_at "ss"
    refine ⟨_, rfl, sm.at6 _, fun H1 s1 => ?_⟩
    have e1 := s1 _ _ e
    walk_at "ss"
    by_cases hn : nameW (wordAt ws i) = true
    · rw [hn]
      refine iteF ?_
      walk_at "ss"
      refine o_ixL (lst_of e1) (strs_at (i := i + 1) hi2) ?_
      walk_at "ss"
      refine o_neS rfl ?_
      walk_at "ss"
      by_cases hb : wordAt ws (i + 1) = "["
      · rw [if_pos ⟨hn, hb⟩] at q
        rw [show decide (V.str (wordAt ws (i + 1)) = V.str ("[" : Str)) = true from decide_eq_true (congrArg V.str hb)]
        refine iteF ?_
        walk_at "ss"
        refine ⟨p, ws, i + 2, rfl, e1, sm, fun v H2 s2 t2 => ?_⟩
        dsimp only at t2
        have e2 := s2 _ _ e1
        have s02 := s1.trans s2
        cases ht : takePlain ws (i + 2) with
        | none =>
          rw [ht] at t2 q
          obtain rfl : v = .non := t2
          walk_at "ss"
          refine iteT ?_
          refine iteT ?_
          walk_at "ss"
          exact q _ H2 s02 rfl
        | some r =>
          obtain ⟨x, j⟩ := r
          rw [ht] at t2 q
          dsimp only at q
          obtain ⟨a, u, rfl, ea, tu⟩ := t2
          walk_at "ss"
          refine iteF ?_
          walk_at "ss"
          refine o_ixL (lst_of ea) (atI_nat (j := 1) rfl) ?_
          walk_at "ss"
          refine b_lenL (lst_of e2) ?_
          rw [List.length_map]
          walk_at "ss"
          by_cases hj : j < ws.length
          · rw [decide_eq_false (show ¬ (ws.length : Int) ≤ (j : Int) by omega)]
            refine iteF ?_
            walk_at "ss"
            refine o_ixL (lst_of ea) (atI_nat (j := 1) rfl) ?_
            refine o_ixL (lst_of e2) (strs_at hj) ?_
            walk_at "ss"
            refine o_neS rfl ?_
            walk_at "ss"
            by_cases hc : wordAt ws j = "]"
            · rw [if_pos hc] at q
              rw [show decide (V.str (wordAt ws j) = V.str ("]" : Str)) = true from decide_eq_true (congrArg V.str hc)]
              refine iteF ?_
              walk_at "ss"
              refine o_ixL (lst_of ea) (atI_nat (j := 1) rfl) ?_
              walk_at "ss"
              refine ⟨p, ws, j + 1, rfl, e2, sm, fun v H3 s3 t3 => ?_⟩
              dsimp only at t3
              have e3 := s3 _ _ e2
              cases hp : takePlus ws (j + 1) with
              | none =>
                rw [hp] at t3 q
                obtain rfl : v = .non := t3
                walk_at "ss"
                refine iteT ?_
                walk_at "ss"
                exact q _ H3 (s02.trans s3) rfl
              | some r =>
                obtain ⟨n, k⟩ := r
                rw [hp] at t3 q
                obtain ⟨a2, u2, rfl, ea2, tu2⟩ := t3
                obtain rfl := tp_int tu2
                walk_at "ss"
                refine iteF ?_
                walk_at "ss"
                refine o_ixL (lst_of e3) (strs_at hi) ?_
                walk_at "ss"
                refine o_ixL (lst_of (s3 _ _ ea)) (atI_nat (j := 0) rfl) ?_
                walk_at "ss"
                refine o_ixL (lst_of ea2) (atI_nat (j := 0) rfl) ?_
                walk_at "ss"
                refine n_obj (lz (by simp)) fun p4 H4 n4 s4 e4 => ?_
                walk_at "ss"
                refine o_ixL (lst_of (s4 _ _ ea2)) (atI_nat (j := 1) rfl) ?_
                walk_at "ss"
                refine n_obj (lz (by simp)) fun p5 H5 n5 s5 e5 => ?_
                exact q _ H5 (((s02.trans s3).trans s4).trans s5) (lp_mk e5 (.tup (s5 _ _ e4) (.cons (.str _) (.cons (.str _) (.cons (Tp.tk ((s3.trans s4).trans s5).tk tu) (.cons (.int _) .nil))))))
            · rw [if_neg hc] at q
              rw [show decide (V.str (wordAt ws j) = V.str ("]" : Str)) = false from decide_eq_false (fun h => hc (V.str.inj h))]
              refine iteT ?_
              walk_at "ss"
              exact q _ H2 s02 rfl
          · rw [wordAt_out (i := j) (by omega), if_neg (by decide +kernel)] at q
            rw [decide_eq_true (show (ws.length : Int) ≤ (j : Int) by omega)]
            refine iteT ?_
            refine iteT ?_
            walk_at "ss"
            exact q _ H2 s02 rfl
      · rw [if_neg (fun h => hb h.2)] at q
        rw [show decide (V.str (wordAt ws (i + 1)) = V.str ("[" : Str)) = false from decide_eq_false (fun h => hb (V.str.inj h))]
        refine iteT ?_
        walk_at "ss"
        exact ⟨p, ws, i, rfl, e1, sm, fun v H2 s2 t2 => q v H2 (s1.trans s2) t2⟩
    · rw [if_neg (fun h => hn h.1)] at q
      rw [Bool.eq_false_iff.mpr hn]
      refine iteT ?_
      refine iteT ?_
      walk_at "ss"
      exact ⟨p, ws, i, rfl, e1, sm, fun v H2 s2 t2 => q v H2 (s1.trans s2) t2⟩
  · rw [wordAt_out (i := i + 1) (by omega), if_neg (fun h => absurd h.2 (by decide +kernel))] at q
    rw [decide_eq_true (show (ws.length : Int) ≤ (i : Int) + 1 by omega)]
    refine iteT ?_
    refine iteT ?_
    walk_at "ss"
    exact ⟨p, ws, i, rfl, e, sm, fun v H2 s2 t2 => q v H2 s2 t2⟩
/-- data of ints, texts, None and tuples of these, at most so deep -/
def DOk : Nat → PyData → Prop
  | 0, _ => False
  | n + 1, d => match d with
    | .none => True
    | .int _ => True
    | .str _ => True
    | .tuple ds => ds.length ≤ 20000 ∧ ∀ x ∈ ds, DOk n x
    | _ => False
def spSame (n : Nat) : Sp := fun vs H Q _ => ∃ (v u : V) (d : PyData), vs = [v, u] ∧ Tp H v d ∧ Tp H u d ∧ DOk n d ∧ Q (.bl true) H
theorem k_law_same (T : Tx w K mg) : ∀ n : Nat, C8.Cal P w K mg base n "_law_same" (spSame n) []
  | 0 => cal_never (ps := ["found", "expected"]) T.d_law_same (fun _ _ F => F.bindsN fun _ _ _ _ _ _ us hl => match us, hl with | [_, _], _ => rfl) (fun vs H Q E => by
    rintro ⟨v, u, d, _, _, _, h, _⟩
    exact h)
  | n + 1 => by
    have ih := k_law_same T n
    refine cal_of (N := n_law_same) T.d_law_same sc_law_same (fun _ _ F => F.bindsN fun _ _ _ _ _ _ us hl => match us, hl with | [_, _], _ => rfl) (fun vs H Q E h => ?_) (fun f cdv A outer s H vs Q E hr h => ?_)
    · obtain ⟨v, u, d, rfl, _⟩ := h
      rfl
    · obtain ⟨v, u, d, rfl, tv, tu, hd, q⟩ := h
      refine ⟨_, (pss_cons (ps_if (pt_tr (pe_callB (call_isi : CallR _ _ (rIsi K)) (by rfl) T.z_isinstance (by decide +kernel) (pa_cons (pv 1) (pa_cons (pe_bltn (v := .ty "tuple") (by rfl) T.z_tuple (by decide +kernel) rfl) pa_nil))) : PT _ _ (tTr K _)) (pss_cons (ps_if (PW.pt (pw_or (pt_not (pt_tr (pe_callB (call_isi : CallR _ _ (rIsi K)) (by rfl) T.z_isinstance (by decide +kernel) (pa_cons (pv 0) (pa_cons (pe_bltn (v := .ty "tuple") (by rfl) T.z_tuple (by decide +kernel) rfl) pa_nil))) : PT _ _ (tTr K _))) (pw_or1 (pt_cmpR (op_ne2 hr.units : OpR _ _ (rNe2 K)) (pe_callB (call_len2 : CallR _ _ (rLn K)) (by rfl) T.z_len (by decide +kernel) (pa_cons (pv 0) pa_nil)) (pe_callB (call_len2 : CallR _ _ (rLn K)) (by rfl) T.z_len (by decide +kernel) (pa_cons (pv 1) pa_nil)) (nomark _))))) (pss_one (ps_ret pe_bl)) pss_nil) (pss_cons (ps_for PassesOwn.never rfl (pi_range1 (by rfl) T.z_range (pa_cons (pe_callB (call_len2 : CallR _ _ (rLn K)) (by rfl) T.z_len (by decide +kernel) (pa_cons (pv 1) pa_nil)) pa_nil)) (pg_name (i := 2) sc_law_same.nd rfl (Or.inl rfl)) (pss_one (ps_if (pt_not (pt_tr (C8.pe_c ih hr (by first | decide | omega) (by rfl) (pa_cons (pe_ix (ix_seq : IxR _ (rIx K)) (pv 0) (pv 2) (fun _ _ => rfl)) (pa_cons (pe_ix (ix_seq : IxR _ (rIx K)) (pv 1) (pv 2) (fun _ _ => rfl)) pa_nil))) : PT _ _ (tTr K _))) (pss_one (ps_ret pe_bl)) pss_nil))) (pss_one (ps_ret pe_bl)))) pss_nil) (pss_cons (ps_if (pt_tr (pe_callB (call_isi : CallR _ _ (rIsi K)) (by rfl) T.z_isinstance (by decide +kernel) (pa_cons (pv 1) (pa_cons (pe_bltn (v := .ty "str") (by rfl) T.z_str (by decide +kernel) rfl) pa_nil))) : PT _ _ (tTr K _)) (pss_one (ps_ret (pe_and (pe_callB (call_isi : CallR _ _ (rIsi K)) (by rfl) T.z_isinstance (by decide +kernel) (pa_cons (pv 0) (pa_cons (pe_bltn (v := .ty "str") (by rfl) T.z_str (by decide +kernel) rfl) pa_nil))) (pe_one (pe_cmpR (op_eq2 hr.units : OpR _ _ (rEq2 K)) (pv 0) (pv 1) (nomark _)))))) pss_nil) (pss_cons (ps_if (pt_cmpR op_isN2 (pv 1) pe_non (nomark _)) (pss_one (ps_ret (pe_cmpR op_isN2 (pv 0) pe_non (nomark _)))) pss_nil) (pss_one (ps_ret (pe_and (pe_callB (call_isi : CallR _ _ (rIsi K)) (by rfl) T.z_isinstance (by decide +kernel) (pa_cons (pv 0) (pa_cons (pe_bltn (v := .ty "int") (by rfl) T.z_int (by decide +kernel) rfl) pa_nil))) (pe_and (pe_not (pe_callB (call_isi : CallR _ _ (rIsi K)) (by rfl) T.z_isinstance (by decide +kernel) (pa_cons (pv 0) (pa_cons (pe_bltn (v := .ty "bool") (by rfl) T.z_bool (by decide +kernel) rfl) pa_nil)))) (pe_one (pe_cmpR (op_eq2 hr.units : OpR _ _ (rEq2 K)) (pv 0) (pv 1) (nomark _)))))))))), ?_⟩
      walk_at "ss"
      cases d with
      | none =>
        cases tv
        cases tu
        refine b_isi (.base .non) (b := false) (kit_ty (by decide +kernel)) ?_
        walk_at "ss"
        refine iteF ?_
        walk_at "ss"
        refine b_isi (.base .non) (b := false) (kit_ty (by decide +kernel)) ?_
        walk_at "ss"
        refine iteF ?_
        walk_at "ss"
        refine iteT ?_
        walk_at "ss"
        exact q
      | int i =>
        cases tv
        cases tu
        refine b_isi (.base (.int _)) (b := false) (kit_ty (by decide +kernel)) ?_
        walk_at "ss"
        refine iteF ?_
        walk_at "ss"
        refine b_isi (.base (.int _)) (b := false) (kit_ty (by decide +kernel)) ?_
        walk_at "ss"
        refine iteF ?_
        walk_at "ss"
        refine iteF ?_
        walk_at "ss"
        refine b_isi (.base (.int _)) (b := true) (kit_ty (by decide +kernel)) ?_
        walk_at "ss"
        refine iteT ?_
        walk_at "ss"
        refine b_isi (.base (.int _)) (b := false) (kit_ty (by decide +kernel)) ?_
        walk_at "ss"
        refine iteT ?_
        walk_at "ss"
        refine o_eqS rfl ?_
        rw [decide_eq_true rfl]
        exact q
      | str z =>
        cases tv
        cases tu
        refine b_isi (.base (.str _)) (b := false) (kit_ty (by decide +kernel)) ?_
        walk_at "ss"
        refine iteF ?_
        walk_at "ss"
        refine b_isi (.base (.str _)) (b := true) (kit_ty (by decide +kernel)) ?_
        walk_at "ss"
        refine iteT ?_
        walk_at "ss"
        refine b_isi (.base (.str _)) (b := true) (kit_ty (by decide +kernel)) ?_
        walk_at "ss"
        refine iteT ?_
        walk_at "ss"
        refine o_eqS rfl ?_
        rw [decide_eq_true rfl]
        exact q
      | tuple ds =>
        cases tv with
        | @tup a xs _ ea ra =>
        cases tu with
        | @tup b ys _ eb rb =>
        have la := ra.length
        have lb := rb.length
        have hd1 : ds.length ≤ 20000 := hd.1
        refine b_isi (.base (.tup eb)) (b := true) (kit_ty (by decide +kernel)) ?_
        walk_at "ss"
        refine iteT ?_
        walk_at "ss"
        refine b_isi (.base (.tup ea)) (b := true) (kit_ty (by decide +kernel)) ?_
        walk_at "ss"
        refine iteF ?_
        walk_at "ss"
        refine b_lenT (tup_of ea) ?_
        walk_at "ss"
        refine b_lenT (tup_of eb) ?_
        rw [la, lb]
        refine o_neS rfl ?_
        walk_at "ss"
        rw [decide_eq_true rfl]
        refine iteF ?_
        walk_at "ss"
        refine b_lenT (tup_of eb) ?_
        rw [lb]
        walk_at "ss"
        refine k_r1 (by omega) (by omega) ?_
        rw [Int.toNat_natCast]
        refine f_range (fun i σ H' => H' = H ∧ ∃ x, σ = [some (.ref a), some (.ref b), x]) ⟨rfl, _, rfl⟩ (fun i σ H' hi p => ?_) (fun σ H' p => ?_)
        · obtain ⟨rfl, x, rfl⟩ := p
          obtain ⟨v1, g1, t1⟩ := ra.get (List.getElem?_eq_getElem hi)
          obtain ⟨v2, g2, t2⟩ := rb.get (List.getElem?_eq_getElem hi)
          walk_at "ss"
          refine o_ixT (tup_of ea) (atI_of (j := i) (by omega) g1) ?_
          walk_at "ss"
          refine o_ixT (tup_of eb) (atI_of (j := i) (by omega) g2) ?_
          walk_at "ss"
          refine ⟨v1, v2, _, rfl, t1, t2, hd.2 _ (List.getElem_mem hi), ?_⟩
          walk_at "ss"
          refine iteF ?_
          walk_at "ss"
          exact ⟨rfl, _, rfl⟩
        · obtain ⟨rfl, x, rfl⟩ := p
          walk_at "ss"
          exact q
      | bool b => exact hd.elim
      | list ds => exact hd.elim
      | dict kvs => exact hd.elim
end
end K03
namespace K03
open PySem PySem.Spec PyProof.Rows L2 Wy WM W3 W4 W5 W7 W8

-- IH _take_operand _take_operand ihO
-- IH _take_operand _take_joined ihJ
-- IH _take_joined _take_operand ihO
-- IH _take_joined _take_joined ihJ
section
variable {P : Program} {w : World} {K : PySem.W.Frag} {mg : Str → Option Value} {base : Heap}
def spWhole : Sp := fun vs H Q _ => ∃ (v : V) (p : Addr) (ws : List Str) (t : Option (Cd × Nat)), vs = [v, .ref p] ∧ Tp H v (cD t) ∧ H p = some (.lst (ws.map V.str)) ∧ ∀ v, Tp H v (oC (wholeC t ws.length)) → Q v H
theorem k_whole (T : Tx w K mg) : C8.Cal P w K mg base 1 "_whole" spWhole [] := by
  refine cal_of (N := n_whole) T.d_whole sc_whole (fun _ _ F => F.bindsN fun _ _ _ _ _ _ us hl => match us, hl with | [_, _], _ => rfl) (fun vs H Q E h => ?_) (fun f cdv A outer s H vs Q E hr h => ?_)
  · obtain ⟨v, p, ws, t, rfl, _⟩ := h
    rfl
  · obtain ⟨v, p, ws, t, rfl, ht, e, q⟩ := h
    refine ⟨_, (pss_cons (ps_if (PW.pt (pw_or (pt_cmpR op_isN2 (pv 0) pe_non (nomark _)) (pw_or1 (pt_cmpR (op_ne2 hr.units : OpR _ _ (rNe2 K)) (pe_ix (ix_seq : IxR _ (rIx K)) (pv 0) pe_int (fun _ _ => rfl)) (pe_callB (call_len2 : CallR _ _ (rLn K)) (by rfl) T.z_len (by decide +kernel) (pa_cons (pv 1) pa_nil)) (nomark _))))) (pss_one (ps_ret pe_non)) pss_nil) (pss_one (ps_ret (pe_ix (ix_seq : IxR _ (rIx K)) (pv 0) pe_int (fun _ _ => rfl))))), ?_⟩
    walk_at "ss"
    cases t with
    | none =>
      obtain rfl := tp_none ht
      refine iteT ?_
      refine iteT ?_
      walk_at "ss"
      exact q _ .non
    | some r =>
      obtain ⟨x, j⟩ := r
      obtain ⟨a, x1, y1, rfl, ea, tx, ty⟩ := tp_pair ht
      obtain rfl := K03.tp_int ty
      unfold wholeC at q
      dsimp only at q
      refine iteF ?_
      walk_at "ss"
      refine o_ixT (tup_of ea) (atI_nat (j := 1) rfl) ?_
      walk_at "ss"
      refine b_lenL (lst_of e) ?_
      refine o_neS rfl ?_
      rw [List.length_map]
      walk_at "ss"
      by_cases hj : j = ws.length
      · rw [if_pos hj] at q
        rw [hj, decide_eq_true rfl]
        refine iteF ?_
        walk_at "ss"
        refine o_ixT (tup_of ea) (atI_nat (j := 0) rfl) ?_
        exact q _ tx
      · rw [if_neg hj] at q
        rw [decide_eq_false (fun h => hj (by have := V.int.inj h; omega))]
        refine iteT ?_
        walk_at "ss"
        exact q _ .non
theorem k_take_comparison (T : Tx w K mg) : C8.Cal P w K mg base 7 "_take_comparison" (spWs fun ws i => cD (takeCmp ws i)) [] := by
  refine cal_of (N := n_take_comparison) T.d_take_comparison sc_take_comparison (fun _ _ F => F.bindsN fun _ _ _ _ _ _ us hl => match us, hl with | [_, _], _ => rfl) spWs_len (fun f cdv A outer s H vs Q E hr h => ?_)
  obtain ⟨p, ws, i, rfl, e, sm, q⟩ := h
  dsimp only at q
  refine ⟨_, (pss_cons (ps_asg (C8.pe_c (k_take_expression T) hr (by first | decide | omega) (by rfl) (pa_cons (pv 0) (pa_cons (pv 1) pa_nil))) (pg_name (i := 2) sc_take_comparison.nd rfl (Or.inl rfl))) (pss_cons (ps_if (pt_cmpR op_isN2 (pv 2) pe_non (nomark _)) (pss_one (ps_ret pe_non)) pss_nil) (pss_cons (ps_asg (C8.pe_c (k_word_at T) hr (by first | decide | omega) (by rfl) (pa_cons (pv 0) (pa_cons (pe_ix (ix_seq : IxR _ (rIx K)) (pv 2) pe_int (fun _ _ => rfl)) pa_nil))) (pg_name (i := 3) sc_take_comparison.nd rfl (Or.inl rfl))) (pss_cons (ps_if (pt_cmpR (op_ni2 : OpR _ _ (rNi2 K)) (pv 3) (C8.pe_gc (by rfl) T.g_SIGNS) (by rfl)) (pss_one (ps_ret pe_non)) pss_nil) (pss_cons (ps_asg (C8.pe_c (k_take_expression T) hr (by first | decide | omega) (by rfl) (pa_cons (pv 0) (pa_cons (pe_op op_add3 (pe_ix (ix_seq : IxR _ (rIx K)) (pv 2) pe_int (fun _ _ => rfl)) pe_int) pa_nil))) (pg_name (i := 4) sc_take_comparison.nd rfl (Or.inl rfl))) (pss_one (ps_ret (pe_ifExp (pt_cmpR op_isN2 (pv 4) pe_non (nomark _)) pe_non (pe_tup (pa_cons (pe_tup (pa_cons pe_str (pa_cons (pv 3) (pa_cons (pe_ix (ix_seq : IxR _ (rIx K)) (pv 2) pe_int (fun _ _ => rfl)) (pa_cons (pe_ix (ix_seq : IxR _ (rIx K)) (pv 4) pe_int (fun _ _ => rfl)) pa_nil))))) (pa_cons (pe_ix (ix_seq : IxR _ (rIx K)) (pv 4) pe_int (fun _ _ => rfl)) pa_nil))))))))))), ?_⟩
  unfold takeCmp at q
  walk_at "ss"
  refine ⟨p, ws, i, rfl, e, sm, fun v H1 s1 t1 => ?_⟩
  dsimp only at t1
  cases hl : takeExpr ws i with
  | none =>
    rw [hl] at q t1
    obtain rfl := tp_none t1
    walk_at "ss"
    refine iteT ?_
    walk_at "ss"
    exact q _ H1 s1 .non
  | some r =>
    obtain ⟨l, j⟩ := r
    rw [hl] at q t1
    dsimp only at q
    obtain ⟨a, x1, y1, rfl, ea, tx, ty⟩ := tp_pair t1
    obtain rfl := K03.tp_int ty
    walk_at "ss"
    refine iteF ?_
    walk_at "ss"
    refine o_ixT (tup_of ea) (atI_nat (j := 1) rfl) ?_
    walk_at "ss"
    refine ⟨p, ws, j, rfl, s1 _ _ e, sm, fun v2 H2 s2 t2 => ?_⟩
    cases t2
    walk_at "ss"
    refine o_niT (T.t_SIGNS _) rfl (by decide +kernel) ?_
    walk_at "ss"
    rw [show inV (.str (wordAt ws j)) c_SIGNS = decide (wordAt ws j ∈ SIG) from inV_list (l := SIG)]
    have ea2 := s2 _ _ ea
    by_cases hs : wordAt ws j ∈ SIG
    · rw [if_pos hs] at q
      rw [decide_eq_true hs]
      refine iteF ?_
      walk_at "ss"
      refine o_ixT (tup_of ea2) (atI_nat (j := 1) rfl) ?_
      walk_at "ss"
      refine ⟨p, ws, j + 1, rfl, s2 _ _ (s1 _ _ e), sm, fun v3 H3 s3 t3 => ?_⟩
      dsimp only at t3
      cases hr2 : takeExpr ws (j + 1) with
      | none =>
        rw [hr2] at q t3
        obtain rfl := tp_none t3
        walk_at "ss"
        refine iteT ?_
        walk_at "ss"
        exact q _ H3 ((s1.trans s2).trans s3) .non
      | some r2 =>
        obtain ⟨r, k⟩ := r2
        rw [hr2] at q t3
        obtain ⟨a3, x3, y3, rfl, ea3, tx3, ty3⟩ := tp_pair t3
        obtain rfl := K03.tp_int ty3
        have ea' := s3 _ _ ea2
        walk_at "ss"
        refine iteF ?_
        walk_at "ss"
        refine o_ixT (tup_of ea') (atI_nat (j := 0) rfl) ?_
        walk_at "ss"
        refine o_ixT (tup_of ea3) (atI_nat (j := 0) rfl) ?_
        walk_at "ss"
        refine n_obj (lz (by simp)) fun p4 H4 n4 s4 e4 => ?_
        walk_at "ss"
        refine o_ixT (tup_of (s4 _ _ ea3)) (atI_nat (j := 1) rfl) ?_
        walk_at "ss"
        refine n_obj (lz (by simp)) fun p5 H5 n5 s5 e5 => ?_
        refine q _ H5 ((((s1.trans s2).trans s3).trans s4).trans s5) (pair_tp e5 ?_ (.int _))
        rw [Cd.d]
        exact .tup (s5 _ _ e4) (.cons (.str _) (.cons (.str _) (.cons ((((tx.tk s2.tk).tk s3.tk).tk s4.tk).tk s5.tk) (.cons ((tx3.tk s4.tk).tk s5.tk) .nil))))
    · rw [if_neg hs] at q
      rw [decide_eq_false hs]
      refine iteT ?_
      walk_at "ss"
      exact q _ H2 (s1.trans s2) .non
/-- reading an operand; reading what is joined -/
def spO (m : Nat) : Sp := fun vs H Q _ => ∃ (p : Addr) (ws : List Str) (i n k : Nat), vs = [.ref p, .int (i : Int), .int (k : Int)] ∧ H p = some (.lst (ws.map V.str)) ∧ SmallW ws ∧ k + n = 8 ∧ 3 * n < m ∧ ∀ v H', Same H H' → Tp H' v (cD (opnd ws n i)) → Q v H'
def spJ (m : Nat) : Sp := fun vs H Q _ => ∃ (p : Addr) (ws : List Str) (i n k : Nat) (o : Bool), vs = [.ref p, .int (i : Int), .str (jw o), .int (k : Int)] ∧ H p = some (.lst (ws.map V.str)) ∧ SmallW ws ∧ k + n = 8 ∧ 3 * n + (if o then 2 else 1) < m ∧ ∀ v H', Same H H' → Tp H' v (cD (takeJ ws (tk ws n o) o i)) → Q v H'
theorem jw_or (o : Bool) : decide (V.str (jw o) = V.str "or") = o := by cases o <;> rfl
theorem k_opnd (T : Tx w K mg) (m : Nat) (ihO : C8.Cal P w K mg base (m + 7) "_take_operand" (spO m) []) (ihJ : C8.Cal P w K mg base (m + 7) "_take_joined" (spJ m) []) : C8.Cal P w K mg base (m + 1 + 7) "_take_operand" (spO (m + 1)) [] := by
  refine cal_of (N := n_take_operand) T.d_take_operand sc_take_operand (fun _ _ F => F.bindsN fun _ _ _ _ _ _ us hl => match us, hl with | [_, _, _], _ => rfl) (fun vs H Q E h => ?_) (fun f cdv A outer s H vs Q E hr h => ?_)
  · obtain ⟨p, ws, i, n, k, rfl, _⟩ := h
    rfl
  obtain ⟨p, ws, i, n, k, rfl, e, sm, hk, hm, q⟩ := h
  refine ⟨_, (pss_cons (ps_asg (C8.pe_c (k_word_at T) hr (by first | decide | omega) (by rfl) (pa_cons (pv 0) (pa_cons (pv 1) pa_nil))) (pg_name (i := 3) sc_take_operand.nd rfl (Or.inl rfl))) (pss_cons (ps_if (pt_cmpR (op_ni2 : OpR _ _ (rNi2 K)) (pv 3) (pe_tup (pa_cons pe_str (pa_cons pe_str pa_nil))) (by rfl)) (pss_one (ps_ret (C8.pe_c (k_take_comparison T) hr (by first | decide | omega) (by rfl) (pa_cons (pv 0) (pa_cons (pv 1) pa_nil))))) pss_nil) (pss_cons (ps_if (pt_cmpR (op_eq2 hr.units : OpR _ _ (rEq2 K)) (pv 2) (C8.pe_gc (by rfl) T.g_MOST_OPEN) (nomark _)) (pss_one (ps_ret pe_non)) pss_nil) (pss_cons (ps_if (pt_cmpR (op_eq2 hr.units : OpR _ _ (rEq2 K)) (pv 3) pe_str (nomark _)) (pss_cons (ps_asg (C8.pe_c ihO hr (by first | decide | omega) (by rfl) (pa_cons (pv 0) (pa_cons (pe_op op_add3 (pv 1) pe_int) (pa_cons (pe_op op_add3 (pv 2) pe_int) pa_nil)))) (pg_name (i := 4) sc_take_operand.nd rfl (Or.inl rfl))) (pss_one (ps_ret (pe_ifExp (pt_cmpR op_isN2 (pv 4) pe_non (nomark _)) pe_non (pe_tup (pa_cons (pe_tup (pa_cons pe_str (pa_cons (pe_ix (ix_seq : IxR _ (rIx K)) (pv 4) pe_int (fun _ _ => rfl)) pa_nil))) (pa_cons (pe_ix (ix_seq : IxR _ (rIx K)) (pv 4) pe_int (fun _ _ => rfl)) pa_nil))))))) pss_nil) (pss_cons (ps_asg (C8.pe_c ihJ hr (by first | decide | omega) (by rfl) (pa_cons (pv 0) (pa_cons (pe_op op_add3 (pv 1) pe_int) (pa_cons pe_str (pa_cons (pe_op op_add3 (pv 2) pe_int) pa_nil))))) (pg_name (i := 5) sc_take_operand.nd rfl (Or.inl rfl))) (pss_cons (ps_if (PW.pt (pw_or (pt_cmpR op_isN2 (pv 5) pe_non (nomark _)) (pw_or1 (pt_cmpR (op_ne2 hr.units : OpR _ _ (rNe2 K)) (C8.pe_c (k_word_at T) hr (by first | decide | omega) (by rfl) (pa_cons (pv 0) (pa_cons (pe_ix (ix_seq : IxR _ (rIx K)) (pv 5) pe_int (fun _ _ => rfl)) pa_nil))) pe_str (nomark _))))) (pss_one (ps_ret pe_non)) pss_nil) (pss_one (ps_ret (pe_tup (pa_cons (pe_ix (ix_seq : IxR _ (rIx K)) (pv 5) pe_int (fun _ _ => rfl)) (pa_cons (pe_op op_add3 (pe_ix (ix_seq : IxR _ (rIx K)) (pv 5) pe_int (fun _ _ => rfl)) pe_int) pa_nil))))))))))), ?_⟩
  walk_at "ss"
  refine ⟨p, ws, i, rfl, e, sm, fun v H1 s1 t1 => ?_⟩
  cases t1
  walk_at "ss"
  refine n_obj (lz (by simp)) fun p2 H2 n2 s2 e2 => ?_
  refine o_niT (tup_of e2) rfl (by decide +kernel) ?_
  walk_at "ss"
  rw [show inV (.str (wordAt ws i)) [.str "not", .str "("] = decide (wordAt ws i ∈ (["not", "("] : List Str)) from inV_list (l := ["not", "("])]
  have s02 := s1.trans s2
  by_cases hs : wordAt ws i ∈ (["not", "("] : List Str)
  · rw [decide_eq_true hs]
    have hs : wordAt ws i = "not" ∨ wordAt ws i = "(" := by simpa using hs
    refine iteF ?_
    walk_at "ss"
    refine o_eqS rfl ?_
    walk_at "ss"
    cases n with
    | zero =>
      unfold opnd at q
      rw [if_pos hs] at q
      have hk : k = 8 := by omega
      subst hk
      refine iteT ?_
      walk_at "ss"
      exact q _ H2 s02 .non
    | succ n =>
      unfold opnd at q
      rw [decide_eq_false (fun z => by have := V.int.inj z; omega)]
      refine iteF ?_
      walk_at "ss"
      refine o_eqS rfl ?_
      walk_at "ss"
      refine ite2 (fun e1 => ?_) (fun e1 => ?_)
      · have e1 := V.str.inj (of_decide_eq_true e1)
        rw [if_pos e1] at q
        walk_at "ss"
        refine ⟨p, ws, i + 1, n, k + 1, rfl, s02 _ _ e, sm, by omega, by omega, fun v3 H3 s3 t3 => ?_⟩
        cases ho : opnd ws n (i + 1) with
        | none =>
          rw [ho] at q t3
          obtain rfl := tp_none t3
          walk_at "ss"
          refine iteT ?_
          walk_at "ss"
          exact q _ H3 (s02.trans s3) .non
        | some r =>
          obtain ⟨c, j⟩ := r
          rw [ho] at q t3
          obtain ⟨a3, x3, y3, rfl, ea3, tx3, ty3⟩ := tp_pair t3
          obtain rfl := K03.tp_int ty3
          walk_at "ss"
          refine iteF ?_
          walk_at "ss"
          refine o_ixT (tup_of ea3) (atI_nat (j := 0) rfl) ?_
          walk_at "ss"
          refine n_obj (lz (by simp)) fun p4 H4 n4 s4 e4 => ?_
          walk_at "ss"
          refine o_ixT (tup_of (s4 _ _ ea3)) (atI_nat (j := 1) rfl) ?_
          walk_at "ss"
          refine n_obj (lz (by simp)) fun p5 H5 n5 s5 e5 => ?_
          refine q _ H5 (((s02.trans s3).trans s4).trans s5) (pair_tp e5 ?_ (.int _))
          rw [Cd.d]
          exact .tup (s5 _ _ e4) (.cons (.str _) (.cons ((tx3.tk s4.tk).tk s5.tk) .nil))
      · have e1 : ¬ wordAt ws i = "not" := fun z => e1 (by rw [z]; exact decide_eq_true rfl)
        have e2' : wordAt ws i = "(" := hs.resolve_left e1
        rw [if_neg e1, if_pos e2'] at q
        walk_at "ss"
        refine ⟨p, ws, i + 1, n, k + 1, true, rfl, s02 _ _ e, sm, by omega, by show 3 * n + 2 < m; omega, fun v3 H3 s3 t3 => ?_⟩
        have t3 : Tp H3 v3 (cD (takeJ ws (takeJ ws (opnd ws n) false) true (i + 1))) := t3
        cases ho : takeJ ws (takeJ ws (opnd ws n) false) true (i + 1) with
        | none =>
          rw [ho] at q t3
          obtain rfl := tp_none t3
          walk_at "ss"
          refine iteT ?_
          refine iteT ?_
          walk_at "ss"
          exact q _ H3 (s02.trans s3) .non
        | some r =>
          obtain ⟨c, j⟩ := r
          rw [ho] at q t3
          dsimp only at q
          obtain ⟨a3, x3, y3, rfl, ea3, tx3, ty3⟩ := tp_pair t3
          obtain rfl := K03.tp_int ty3
          walk_at "ss"
          refine iteF ?_
          walk_at "ss"
          refine o_ixT (tup_of ea3) (atI_nat (j := 1) rfl) ?_
          walk_at "ss"
          refine ⟨p, ws, j, rfl, s3 _ _ (s02 _ _ e), sm, fun v4 H4 s4 t4 => ?_⟩
          cases t4
          walk_at "ss"
          refine o_neS rfl ?_
          walk_at "ss"
          by_cases hc : wordAt ws j = ")"
          · rw [if_pos hc] at q
            rw [hc, decide_eq_true rfl]
            refine iteF ?_
            walk_at "ss"
            refine o_ixT (tup_of (s4 _ _ ea3)) (atI_nat (j := 0) rfl) ?_
            walk_at "ss"
            refine o_ixT (tup_of (s4 _ _ ea3)) (atI_nat (j := 1) rfl) ?_
            walk_at "ss"
            refine n_obj (lz (by simp)) fun p5 H5 n5 s5 e5 => ?_
            exact q _ H5 (((s02.trans s3).trans s4).trans s5) (pair_tp e5 ((tx3.tk s4.tk).tk s5.tk) (.int _))
          · rw [if_neg hc] at q
            rw [decide_eq_false (fun z => hc (V.str.inj z))]
            refine iteT ?_
            walk_at "ss"
            exact q _ H4 ((s02.trans s3).trans s4) .non
  · rw [decide_eq_false hs]
    have hs : ¬ wordAt ws i = "not" ∧ ¬ wordAt ws i = "(" := by simpa using hs
    have q2 : ∀ v H', Same H H' → Tp H' v (cD (takeCmp ws i)) → Q v H' := by
      cases n with
      | zero =>
        unfold opnd at q
        rw [if_neg (fun z => z.elim hs.1 hs.2)] at q
        exact q
      | succ n =>
        unfold opnd at q
        rw [if_neg hs.1, if_neg hs.2] at q
        exact q
    refine iteT ?_
    walk_at "ss"
    exact ⟨p, ws, i, rfl, s02 _ _ e, sm, fun v3 H3 s3 t3 => q2 v3 H3 (s02.trans s3) t3⟩
end
end K03
namespace K03
open PySem PySem.Spec PyProof.Rows L2 Wy WM W3 W4 W5 W7 W8 W6

-- IH _take_operand _take_operand ihO
-- IH _take_operand _take_joined ihJ
-- IH _take_joined _take_operand ihO
-- IH _take_joined _take_joined ihJ
section
variable {P : Program} {w : World} {K : PySem.W.Frag} {mg : Str → Option Value} {base : Heap}
theorem loop_acc {ws : List Str} {take : Nat → Option (Cd × Nat)} {word : Str} {f i : Nat} : loopJ ws take word f i = (loopJ ws take word f i).map fun r => ([] ++ r.1, r.2) := by
  cases loopJ ws take word f i with
  | none => rfl
  | some r => rfl
theorem joinOf_many {o : Bool} {acc : List Cd} {c : Cd} (h : acc ≠ []) : joinOf o (acc ++ [c]) = .jn o (acc ++ [c]) := by
  match acc, h with
  | [a], _ => rfl
  | a :: b :: r, _ => rfl
theorem k_joined (T : Tx w K mg) (m : Nat) (ihO : C8.Cal P w K mg base (m + 7) "_take_operand" (spO m) []) (ihJ : C8.Cal P w K mg base (m + 7) "_take_joined" (spJ m) []) : C8.Cal P w K mg base (m + 1 + 7) "_take_joined" (spJ (m + 1)) [] := by
  refine cal_of (N := n_take_joined) T.d_take_joined sc_take_joined (fun _ _ F => F.bindsN fun _ _ _ _ _ _ us hl => match us, hl with | [_, _, _, _], _ => rfl) (fun vs H Q E h => ?_) (fun f cdv A outer s H vs Q E hr h => ?_)
  · obtain ⟨p, ws, i, n, k, o, rfl, _⟩ := h
    rfl
  obtain ⟨p, ws, i, n, k, o, rfl, e, sm, hk, hm, q⟩ := h
  refine ⟨_, (pss_cons (ps_asg (pe_lst pa_nil) (pg_name (i := 4) sc_take_joined.nd rfl (Or.inl rfl))) (pss_cons (ps_while PassesOwn.never (pt_tr pe_bl : PT _ _ (tTr K _)) (C8.pss_cut (ps_if (pt_cmpR (op_eq2 hr.units : OpR _ _ (rEq2 K)) (pv 2) pe_str (nomark _)) (pss_one (ps_asg (C8.pe_c ihJ hr (by first | decide | omega) (by rfl) (pa_cons (pv 0) (pa_cons (pv 1) (pa_cons pe_str (pa_cons (pv 3) pa_nil))))) (pg_name (i := 5) sc_take_joined.nd rfl (Or.inl rfl)))) (pss_one (ps_asg (C8.pe_c ihO hr (by first | decide | omega) (by rfl) (pa_cons (pv 0) (pa_cons (pv 1) (pa_cons (pv 3) pa_nil)))) (pg_name (i := 5) sc_take_joined.nd rfl (Or.inl rfl))))) (pss_cons (ps_if (pt_cmpR op_isN2 (pv 5) pe_non (nomark _)) (pss_one (ps_ret pe_non)) pss_nil) (pss_cons (ps_asg (pv 5) (pg_tup (by rfl) (pgs_cons (pg_name (i := 6) sc_take_joined.nd rfl (Or.inl rfl)) (pgs_cons (pg_name (i := 1) sc_take_joined.nd rfl (Or.inl rfl)) pgs_nil)) : PG _ _ (gTup K _ _))) (pss_cons (ps_expr (pe_bm PySem.F.plainAttrs_list PySem.F.slot_list_append PySem.F.type_list_append mt_append (pv 4) (pa_cons (pv 6) pa_nil) : PE _ _ (tBM K _ _ _ _))) (pss_cons (ps_if (pt_cmpR (op_ne2 hr.units : OpR _ _ (rNe2 K)) (C8.pe_c (k_word_at T) hr (by first | decide | omega) (by rfl) (pa_cons (pv 0) (pa_cons (pv 1) pa_nil))) (pv 2) (nomark _)) (pss_one ps_break) pss_nil) (pss_one (ps_aug (i := 1) sc_take_joined.nd rfl (Or.inl rfl) pe_int ip_add)))))))) (pss_cons (ps_if (pt_cmpR (op_eq2 hr.units : OpR _ _ (rEq2 K)) (pe_callB (call_len2 : CallR _ _ (rLn K)) (by rfl) T.z_len (by decide +kernel) (pa_cons (pv 4) pa_nil)) pe_int (nomark _)) (pss_one (ps_ret (pe_tup (pa_cons (pe_ix (ix_seq : IxR _ (rIx K)) (pv 4) pe_int (fun _ _ => rfl)) (pa_cons (pv 1) pa_nil))))) pss_nil) (pss_one (ps_ret (pe_tup (pa_cons (pe_tup (pa_cons (pv 2) (pa_cons (pe_callTy (call_tup2 : CallR _ _ (rTup K)) (by rfl) T.z_tuple (by decide +kernel) (pa_cons (pv 4) pa_nil)) pa_nil))) (pa_cons (pv 1) pa_nil)))))))), ?_⟩
  walk_at "ss"
  refine n_obj (Nat.zero_le _) fun D H1 nD s1 e1 => ?_
  walk_at "ss"
  refine s_while (fun f σ H' => Same H H' ∧ ∃ (j : Nat) (acc : List Cd) (us : List V) (x5 x6 : Option V), σ = [some (.ref p), some (.int (j : Int)), some (.str (jw o)), some (.int (k : Int)), some (.ref D), x5, x6] ∧ H' D = some (.lst us) ∧ TpAll H' us (Cd.ds acc) ∧
    1 ≤ f ∧ ws.length + 1 ≤ f + j ∧ acc.length + f = ws.length + 1 ∧ loopJ ws (tk ws n o) (jw o) (ws.length + 1) i = (loopJ ws (tk ws n o) (jw o) f j).map fun r => (acc ++ r.1, r.2)) (ws.length + 1)
    ⟨s1, i, [], [], none, none, rfl, e1, .nil, by omega, by omega, by simp, loop_acc⟩ fun f σ H2 hW => ?_
  obtain ⟨s2, j, acc, us, x5, x6, rfl, e2, t2, hf, hj, hac, hL⟩ := hW
  obtain ⟨f, rfl⟩ : ∃ g, f = g + 1 := ⟨f - 1, by omega⟩
  have lus : us.length = acc.length := by rw [t2.length, ds_len]
  walk_at "ss"
  refine iteT ?_
  refine k_while ?_
  walk_at "ss"
  refine s_cut (fun σ H' => ∃ (v : V) , σ = [some (.ref p), some (.int (j : Int)), some (.str (jw o)), some (.int (k : Int)), some (.ref D), some v, x6] ∧ Same H2 H' ∧ Tp H' v (cD (tk ws n o j))) ?_ (fun σ H3 hp => ?_)
  · walk_at "ss"
    refine o_eqS rfl ?_
    rw [jw_or]
    walk_at "ss"
    cases o with
    | true =>
      refine iteT ?_
      walk_at "ss"
      exact ⟨p, ws, j, n, k, false, rfl, s2 _ _ e, sm, hk, by have : 3 * n + 2 < m + 1 := hm; show 3 * n + 1 < m; omega, fun v H3 s3 t3 => ⟨v, rfl, s3, t3⟩⟩
    | false =>
      refine iteF ?_
      walk_at "ss"
      exact ⟨p, ws, j, n, k, rfl, s2 _ _ e, sm, hk, by have : 3 * n + 1 < m + 1 := hm; omega, fun v H3 s3 t3 => ⟨v, rfl, s3, t3⟩⟩
  · obtain ⟨v, rfl, s3, t3⟩ := hp
    unfold loopJ at hL
    have e3 := s3 _ _ e2
    have s03 := s2.trans s3
    walk_at "ss"
    cases ht : tk ws n o j with
    | none =>
      rw [ht] at hL t3
      obtain rfl := tp_none t3
      have hL : loopJ ws (tk ws n o) (jw o) (ws.length + 1) i = none := hL
      walk_at "ss"
      refine iteT ?_
      walk_at "ss"
      refine q _ H3 s03 ?_
      unfold takeJ
      rw [hL]
      exact .non
    | some r =>
      obtain ⟨c, j2⟩ := r
      rw [ht] at hL t3
      have hgt := tk_gt o ht
      obtain ⟨a3, x3, y3, rfl, ea3, tx3, ty3⟩ := tp_pair t3
      obtain rfl := K03.tp_int ty3
      have hL : loopJ ws (tk ws n o) (jw o) (ws.length + 1) i = (if wordAt ws j2 = jw o then (match loopJ ws (tk ws n o) (jw o) f (j2 + 1) with | none => none | some (cs, k) => some (c :: cs, k)) else some ([c], j2)).map fun r => (acc ++ r.1, r.2) := hL
      walk_at "ss"
      refine iteF ?_
      walk_at "ss"
      refine g_tup (tup_of ea3) rfl ?_
      walk_at "ss"
      refine m_ty (lst_of e3) ?_
      walk_at "ss"
      refine m_app e3 (by rw [lus]; exact small1000' (by have := sm.1; omega)) fun H4 c4 e4 => ?_
      have nDp : p ≠ D := ne_of_none e nD
      have s04 := c4.same s03 nD
      have t4 := tpSnoc ((t2.tk s3.tk).tk (c4.tk e3)) (tx3.tk (c4.tk e3))
      rw [← ds_snoc] at t4
      walk_at "ss"
      refine ⟨p, ws, j2, rfl, s04 _ _ e, sm, fun v5 H5 s5 t5 => ?_⟩
      cases t5
      have s05 := s04.trans s5
      have e5 := s5 _ _ e4
      have t5 := t4.tk s5.tk
      walk_at "ss"
      refine o_neS rfl ?_
      walk_at "ss"
      by_cases hw : wordAt ws j2 = jw o
      · rw [if_pos hw] at hL
        rw [hw, decide_eq_true rfl]
        have hlt : j2 < ws.length := wordAt_lt (by rw [hw]; cases o <;> decide +kernel)
        refine iteF ?_
        walk_at "ss"
        refine ⟨f, by omega, s05, j2 + 1, acc ++ [c], us ++ [x3], _, _, rfl, e5, t5, by omega, by omega, by rw [List.length_append, List.length_singleton]; omega, ?_⟩
        rw [hL]
        cases loopJ ws (tk ws n o) (jw o) f (j2 + 1) with
        | none => rfl
        | some r =>
          show some (acc ++ c :: r.1, r.2) = some (acc ++ [c] ++ r.1, r.2)
          simp
      · rw [if_neg hw] at hL
        have hL : loopJ ws (tk ws n o) (jw o) (ws.length + 1) i = some (acc ++ [c], j2) := hL
        rw [decide_eq_false (fun z => hw (V.str.inj z))]
        refine iteT ?_
        walk_at "ss"
        refine b_lenL (lst_of e5) ?_
        walk_at "ss"
        refine o_eqS rfl ?_
        rw [List.length_append, lus, List.length_singleton]
        unfold takeJ at q
        rw [hL] at q
        walk_at "ss"
        by_cases h0 : acc = []
        · subst h0
          have lus : us = [] := List.eq_nil_of_length_eq_zero lus
          subst lus
          refine iteT ?_
          walk_at "ss"
          refine o_ixL (lst_of e5) (atI_nat (j := 0) rfl) ?_
          walk_at "ss"
          refine n_obj (lz (by simp)) fun p6 H6 n6 s6 e6 => ?_
          refine q _ H6 (s05.trans s6) (pair_tp e6 ?_ (.int _))
          exact ((tx3.tk (c4.tk e3)).tk s5.tk).tk s6.tk
        · have hl : acc.length ≠ 0 := fun z => h0 (List.eq_nil_of_length_eq_zero z)
          rw [decide_eq_false (fun z => by have := V.int.inj z; omega)]
          refine iteF ?_
          walk_at "ss"
          refine b_tup (lst_of e5) fun p6 H6 n6 s6 e6 => ?_
          walk_at "ss"
          refine n_obj (lz (by simp)) fun p7 H7 n7 s7 e7 => ?_
          walk_at "ss"
          refine n_obj (lz (by simp)) fun p8 H8 n8 s8 e8 => ?_
          refine q _ H8 (((s05.trans s6).trans s7).trans s8) (pair_tp e8 ?_ (.int _))
          rw [joinOf_many h0, Cd.d]
          exact .tup (s8 _ _ e7) (.cons (.str _) (.cons (.tup (s8 _ _ (s7 _ _ e6)) (((t5.tk s6.tk).tk s7.tk).tk s8.tk)) .nil))
theorem spO_no (vs : List V) (H : Hp) (Q : VK) (E : XK) : ¬ spO 0 vs H Q E := by
  rintro ⟨_, _, _, _, _, _, _, _, _, h, _⟩
  omega
theorem spJ_no (vs : List V) (H : Hp) (Q : VK) (E : XK) : ¬ spJ 0 vs H Q E := by
  rintro ⟨_, _, _, _, _, _, _, _, _, _, h, _⟩
  omega
theorem k_both (T : Tx w K mg) : ∀ m : Nat, C8.Cal P w K mg base (m + 7) "_take_operand" (spO m) [] ∧ C8.Cal P w K mg base (m + 7) "_take_joined" (spJ m) []
  | 0 => ⟨cal_never (ps := ["words", "at", "many_open"]) T.d_take_operand (fun _ _ F => F.bindsN fun _ _ _ _ _ _ us hl => match us, hl with | [_, _, _], _ => rfl) spO_no, cal_never (ps := ["words", "at", "word", "many_open"]) T.d_take_joined (fun _ _ F => F.bindsN fun _ _ _ _ _ _ us hl => match us, hl with | [_, _, _, _], _ => rfl) spJ_no⟩
  | m + 1 => ⟨k_opnd T m (k_both T m).1 (k_both T m).2, k_joined T m (k_both T m).1 (k_both T m).2⟩
theorem k_take_joined (T : Tx w K mg) : C8.Cal P w K mg base 34 "_take_joined" (spJ 27) [] := (k_both T 27).2
def spCondOf : Sp := fun vs H Q _ => ∃ (p : Addr) (ws : List Str), vs = [.ref p] ∧ H p = some (.lst (ws.map V.str)) ∧ SmallW ws ∧ ∀ v H', Same H H' → Tp H' v (oC (readC ws)) → Q v H'
theorem k_condition_of (T : Tx w K mg) : C8.Cal P w K mg base 35 "condition_of" spCondOf [] := by
  refine cal_of (N := n_condition_of) T.d_condition_of sc_condition_of (fun _ _ F => F.bindsN fun _ _ _ _ _ _ us hl => match us, hl with | [_], _ => rfl) (fun vs H Q E h => ?_) (fun f cdv A outer s H vs Q E hr h => ?_)
  · obtain ⟨p, ws, rfl, _⟩ := h
    rfl
  · obtain ⟨p, ws, rfl, e, sm, q⟩ := h
    refine ⟨_, (pss_one (ps_ret (C8.pe_c (k_whole T) hr (by first | decide | omega) (by rfl) (pa_cons (C8.pe_c (k_take_joined T) hr (by first | decide | omega) (by rfl) (pa_cons (pv 0) (pa_cons pe_int (pa_cons pe_str (pa_cons pe_int pa_nil))))) (pa_cons (pv 0) pa_nil))))), ?_⟩
    walk_at "ss"
    refine ⟨p, ws, 0, 8, 0, true, rfl, e, sm, by omega, by decide, fun v H1 s1 t1 => ?_⟩
    walk_at "ss"
    exact ⟨v, p, ws, takeOr ws 8 0, rfl, t1, s1 _ _ e, fun v t => q v H1 s1 t⟩
def readT (z : Str) : Option Cd := match wordsW z with
  | none => none
  | some ws => readC ws
def spRead : Sp := fun vs H Q _ => ∃ (z : Str), vs = [.str z] ∧ z.length ≤ 1000000 ∧ (∀ ws, wordsW z = some ws → SmallW ws) ∧ ∀ v H', Same H H' → Tp H' v (oC (readT z)) → Q v H'
theorem k_read_condition (T : Tx w K mg) : C8.Cal P w K mg base 36 "read_condition" spRead [] := by
  refine cal_of (N := n_read_condition) T.d_read_condition sc_read_condition (fun _ _ F => F.bindsN fun _ _ _ _ _ _ us hl => match us, hl with | [_], _ => rfl) (fun vs H Q E h => ?_) (fun f cdv A outer s H vs Q E hr h => ?_)
  · obtain ⟨z, rfl, _⟩ := h
    rfl
  · obtain ⟨z, rfl, hz, hsm, q⟩ := h
    refine ⟨_, (pss_cons (ps_asg (C8.pe_c (k_split_row T) hr (by first | decide | omega) (by rfl) (pa_cons (pv 0) pa_nil)) (pg_name (i := 1) sc_read_condition.nd rfl (Or.inl rfl))) (pss_one (ps_ret (pe_ifExp (pt_cmpR op_isN2 (pv 1) pe_non (nomark _)) pe_non (C8.pe_c (k_condition_of T) hr (by first | decide | omega) (by rfl) (pa_cons (pv 1) pa_nil)))))), ?_⟩
    walk_at "ss"
    refine ⟨z, rfl, by omega, fun v H1 s1 w1 => ?_⟩
    unfold readT at q
    cases hw : wordsW z with
    | none =>
      rw [hw] at w1 q
      obtain rfl : v = .non := w1
      walk_at "ss"
      refine iteT ?_
      walk_at "ss"
      exact q _ H1 s1 .non
    | some ws =>
      rw [hw] at w1 q
      obtain ⟨p, rfl, _, e⟩ := w1
      walk_at "ss"
      refine iteF ?_
      walk_at "ss"
      exact ⟨p, ws, rfl, e, hsm ws hw, fun v H2 s2 t2 => q v H2 (s1.trans s2) t2⟩
end
end K03
namespace K03
open PySem PySem.Spec PyProof.Rows L2 Wy WM W3 W4 W5 W7 W8 W6

-- IH _law_read_not _law_read_not ihN
-- IH _law_read_not _law_read_or ihR
-- IH _law_read_and _law_read_not ihN
-- IH _law_read_or _law_read_and ihA
section
variable {P : Program} {w : World} {K : PySem.W.Frag} {mg : Str → Option Value} {base : Heap}
def cP (o : Option (Cd × Nat)) : Option (PyData × Nat) := o.map fun q => (q.1.d, q.2)
theorem k_law_read_cmp (T : Tx w K mg) : C8.Cal P w K mg base 5 "_law_read_cmp" (spWsL fun ws i => cP (takeCmp ws i)) [] := by
  refine cal_of (N := n_law_read_cmp) T.d_law_read_cmp sc_law_read_cmp (fun _ _ F => F.bindsN fun _ _ _ _ _ _ us hl => match us, hl with | [_, _], _ => rfl) spWsL_len (fun f cdv A outer s H vs Q E hr h => ?_)
  obtain ⟨p, ws, i, rfl, e, sm, q⟩ := h
  dsimp only at q
  refine ⟨_, (pss_cons (ps_asg (C8.pe_c (k_law_read T) hr (by first | decide | omega) (by rfl) (pa_cons (pv 0) (pa_cons (pv 1) pa_nil))) (pg_name (i := 2) sc_law_read_cmp.nd rfl (Or.inl rfl))) (pss_cons (ps_if (PW.pt (pw_or (pt_cmpR op_isN2 (pv 2) pe_non (nomark _)) (pw_or (pt_cmpR op_ge (pe_ix (ix_seq : IxR _ (rIx K)) (pv 2) pe_int (fun _ _ => rfl)) (pe_callB (call_len2 : CallR _ _ (rLn K)) (by rfl) T.z_len (by decide +kernel) (pa_cons (pv 0) pa_nil)) (nomark _)) (pw_or1 (pt_cmpR (op_ni2 : OpR _ _ (rNi2 K)) (pe_ix (ix_seq : IxR _ (rIx K)) (pv 0) (pe_ix (ix_seq : IxR _ (rIx K)) (pv 2) pe_int (fun _ _ => rfl)) (fun _ _ => rfl)) (pe_lst (pa_cons pe_str (pa_cons pe_str (pa_cons pe_str (pa_cons pe_str (pa_cons pe_str (pa_cons pe_str pa_nil))))))) (by rfl)))))) (pss_one (ps_ret pe_non)) pss_nil) (pss_cons (ps_asg (C8.pe_c (k_law_read T) hr (by first | decide | omega) (by rfl) (pa_cons (pv 0) (pa_cons (pe_op op_add3 (pe_ix (ix_seq : IxR _ (rIx K)) (pv 2) pe_int (fun _ _ => rfl)) pe_int) pa_nil))) (pg_name (i := 3) sc_law_read_cmp.nd rfl (Or.inl rfl))) (pss_cons (ps_if (pt_cmpR op_isN2 (pv 3) pe_non (nomark _)) (pss_one (ps_ret pe_non)) pss_nil) (pss_one (ps_ret (pe_lst (pa_cons (pe_tup (pa_cons pe_str (pa_cons (pe_ix (ix_seq : IxR _ (rIx K)) (pv 0) (pe_ix (ix_seq : IxR _ (rIx K)) (pv 2) pe_int (fun _ _ => rfl)) (fun _ _ => rfl)) (pa_cons (pe_ix (ix_seq : IxR _ (rIx K)) (pv 2) pe_int (fun _ _ => rfl)) (pa_cons (pe_ix (ix_seq : IxR _ (rIx K)) (pv 3) pe_int (fun _ _ => rfl)) pa_nil))))) (pa_cons (pe_ix (ix_seq : IxR _ (rIx K)) (pv 3) pe_int (fun _ _ => rfl)) pa_nil))))))))), ?_⟩
  unfold takeCmp at q
  walk_at "ss"
  refine ⟨p, ws, i, rfl, e, sm, fun v H1 s1 t1 => ?_⟩
  dsimp only at t1
  have e1 := s1 _ _ e
  cases hl : takeExpr ws i with
  | none =>
    rw [hl] at q t1
    obtain rfl : v = .non := t1
    walk_at "ss"
    refine iteT ?_
    refine iteT ?_
    walk_at "ss"
    exact q _ H1 s1 rfl
  | some r =>
    obtain ⟨l, j⟩ := r
    rw [hl] at q t1
    dsimp only at q
    obtain ⟨a, u, rfl, ea, tu⟩ := t1
    walk_at "ss"
    refine iteF ?_
    walk_at "ss"
    refine o_ixL (lst_of ea) (atI_nat (j := 1) rfl) ?_
    walk_at "ss"
    refine b_lenL (lst_of e1) ?_
    rw [List.length_map]
    walk_at "ss"
    by_cases hj : j < ws.length
    · rw [decide_eq_false (show ¬ (ws.length : Int) ≤ (j : Int) by omega)]
      refine iteF ?_
      walk_at "ss"
      refine o_ixL (lst_of ea) (atI_nat (j := 1) rfl) ?_
      refine o_ixL (lst_of e1) (strs_at hj) ?_
      walk_at "ss"
      refine n_obj (lz (by simp)) fun p2 H2 n2 s2 e2 => ?_
      have ea2 := s2 _ _ ea
      refine o_niL (lst_of e2) rfl (by decide +kernel) ?_
      walk_at "ss"
      rw [show inV (.str (wordAt ws j)) [.str "<", .str "<=", .str ">", .str ">=", .str "==", .str "!="] = decide (wordAt ws j ∈ SIG) from inV_list (l := SIG)]
      by_cases hs : wordAt ws j ∈ SIG
      · rw [if_pos hs] at q
        rw [decide_eq_true hs]
        refine iteF ?_
        walk_at "ss"
        refine o_ixL (lst_of ea2) (atI_nat (j := 1) rfl) ?_
        walk_at "ss"
        refine ⟨p, ws, j + 1, rfl, s2 _ _ e1, sm, fun v3 H3 s3 t3 => ?_⟩
        dsimp only at t3
        cases hr2 : takeExpr ws (j + 1) with
        | none =>
          rw [hr2] at q t3
          obtain rfl : v3 = .non := t3
          walk_at "ss"
          refine iteT ?_
          walk_at "ss"
          exact q _ H3 ((s1.trans s2).trans s3) rfl
        | some r2 =>
          obtain ⟨r, k⟩ := r2
          rw [hr2] at q t3
          obtain ⟨a3, u3, rfl, ea3, tu3⟩ := t3
          have ea' := s3 _ _ ea2
          walk_at "ss"
          refine iteF ?_
          walk_at "ss"
          refine o_ixL (lst_of ea') (atI_nat (j := 1) rfl) ?_
          refine o_ixL (lst_of (s3 _ _ (s2 _ _ e1))) (strs_at hj) ?_
          walk_at "ss"
          refine o_ixL (lst_of ea') (atI_nat (j := 0) rfl) ?_
          walk_at "ss"
          refine o_ixL (lst_of ea3) (atI_nat (j := 0) rfl) ?_
          walk_at "ss"
          refine n_obj (lz (by simp)) fun p4 H4 n4 s4 e4 => ?_
          walk_at "ss"
          refine o_ixL (lst_of (s4 _ _ ea3)) (atI_nat (j := 1) rfl) ?_
          walk_at "ss"
          refine n_obj (lz (by simp)) fun p5 H5 n5 s5 e5 => ?_
          refine q _ H5 ((((s1.trans s2).trans s3).trans s4).trans s5) (lp_mk e5 ?_)
          show Tp H5 _ (Cd.cmp (wordAt ws j) l r).d
          rw [Cd.d]
          exact .tup (s5 _ _ e4) (.cons (.str _) (.cons (.str _) (.cons ((((tu.tk s2.tk).tk s3.tk).tk s4.tk).tk s5.tk) (.cons ((tu3.tk s4.tk).tk s5.tk) .nil))))
      · rw [if_neg hs] at q
        rw [decide_eq_false hs]
        refine iteT ?_
        walk_at "ss"
        exact q _ H2 (s1.trans s2) rfl
    · rw [if_neg (fun z => by rw [wordAt_out (by omega)] at z; revert z; decide +kernel)] at q
      rw [decide_eq_true (show (ws.length : Int) ≤ (j : Int) by omega)]
      refine iteT ?_
      refine iteT ?_
      walk_at "ss"
      exact q _ H1 s1 rfl
def spN (m : Nat) : Sp := fun vs H Q _ => ∃ (p : Addr) (ws : List Str) (i n k : Nat), vs = [.ref p, .int (i : Int), .int (k : Int)] ∧ H p = some (.lst (ws.map V.str)) ∧ SmallW ws ∧ k + n = 8 ∧ 3 * n < m ∧ ∀ v H', Same H H' → LP H' v (cP (opnd ws n i)) → Q v H'
def spA (m : Nat) : Sp := fun vs H Q _ => ∃ (p : Addr) (ws : List Str) (i n k : Nat), vs = [.ref p, .int (i : Int), .int (k : Int)] ∧ H p = some (.lst (ws.map V.str)) ∧ SmallW ws ∧ k + n = 8 ∧ 3 * n + 1 < m ∧ ∀ v H', Same H H' → LP H' v (cP (takeJ ws (tk ws n false) false i)) → Q v H'
def spR (m : Nat) : Sp := fun vs H Q _ => ∃ (p : Addr) (ws : List Str) (i n k : Nat), vs = [.ref p, .int (i : Int), .int (k : Int)] ∧ H p = some (.lst (ws.map V.str)) ∧ SmallW ws ∧ k + n = 8 ∧ 3 * n + 2 < m ∧ ∀ v H', Same H H' → LP H' v (cP (takeJ ws (tk ws n true) true i)) → Q v H'
theorem k_law_read_and' (T : Tx w K mg) (m : Nat) (ihN : C8.Cal P w K mg base (m + 6) "_law_read_not" (spN m) []) : C8.Cal P w K mg base (m + 1 + 6) "_law_read_and" (spA (m + 1)) [] := by
  refine cal_of (N := n_law_read_and) T.d_law_read_and sc_law_read_and (fun _ _ F => F.bindsN fun _ _ _ _ _ _ us hl => match us, hl with | [_, _, _], _ => rfl) (fun vs H Q E h => ?_) (fun f cdv A outer s H vs Q E hr h => ?_)
  · obtain ⟨p, ws, i, n, k, rfl, _⟩ := h
    rfl
  obtain ⟨p, ws, i, n, k, rfl, e, sm, hk, hm, q⟩ := h
  have hwl := sm.1
  refine ⟨_, (pss_cons (ps_asg (pe_lst pa_nil) (pg_name (i := 3) sc_law_read_and.nd rfl (Or.inl rfl))) (pss_cons (ps_for PassesOwn.never rfl (pi_range1 (by rfl) T.z_range (pa_cons (pe_op op_add3 (pe_callB (call_len2 : CallR _ _ (rLn K)) (by rfl) T.z_len (by decide +kernel) (pa_cons (pv 0) pa_nil)) pe_int) pa_nil)) (pg_name (i := 4) sc_law_read_and.nd rfl (Or.inl rfl)) (pss_cons (ps_asg (C8.pe_c ihN hr (by first | decide | omega) (by rfl) (pa_cons (pv 0) (pa_cons (pv 1) (pa_cons (pv 2) pa_nil)))) (pg_name (i := 5) sc_law_read_and.nd rfl (Or.inl rfl))) (pss_cons (ps_if (pt_cmpR op_isN2 (pv 5) pe_non (nomark _)) (pss_one (ps_ret pe_non)) pss_nil) (pss_cons (ps_expr (pe_bm PySem.F.plainAttrs_list PySem.F.slot_list_append PySem.F.type_list_append mt_append (pv 3) (pa_cons (pe_ix (ix_seq : IxR _ (rIx K)) (pv 5) pe_int (fun _ _ => rfl)) pa_nil) : PE _ _ (tBM K _ _ _ _))) (pss_cons (ps_asg (pe_ix (ix_seq : IxR _ (rIx K)) (pv 5) pe_int (fun _ _ => rfl)) (pg_name (i := 1) sc_law_read_and.nd rfl (Or.inl rfl))) (pss_cons (ps_if (PW.pt (pw_or (pt_cmpR op_ge (pv 1) (pe_callB (call_len2 : CallR _ _ (rLn K)) (by rfl) T.z_len (by decide +kernel) (pa_cons (pv 0) pa_nil)) (nomark _)) (pw_or1 (pt_cmpR (op_ne2 hr.units : OpR _ _ (rNe2 K)) (pe_ix (ix_seq : IxR _ (rIx K)) (pv 0) (pv 1) (fun _ _ => rfl)) pe_str (nomark _))))) (pss_one ps_break) pss_nil) (pss_one (ps_asg (pe_op op_add3 (pv 1) pe_int) (pg_name (i := 1) sc_law_read_and.nd rfl (Or.inl rfl)))))))))) (pss_cons (ps_if (pt_cmpR (op_eq2 hr.units : OpR _ _ (rEq2 K)) (pe_callB (call_len2 : CallR _ _ (rLn K)) (by rfl) T.z_len (by decide +kernel) (pa_cons (pv 3) pa_nil)) pe_int (nomark _)) (pss_one (ps_ret (pe_lst (pa_cons (pe_ix (ix_seq : IxR _ (rIx K)) (pv 3) pe_int (fun _ _ => rfl)) (pa_cons (pv 1) pa_nil))))) pss_nil) (pss_one (ps_ret (pe_lst (pa_cons (pe_tup (pa_cons pe_str (pa_cons (pe_callTy (call_tup2 : CallR _ _ (rTup K)) (by rfl) T.z_tuple (by decide +kernel) (pa_cons (pv 3) pa_nil)) pa_nil))) (pa_cons (pv 1) pa_nil)))))))), ?_⟩
  walk_at "ss"
  refine n_obj (Nat.zero_le _) fun D H1 nD s1 e1 => ?_
  walk_at "ss"
  refine b_lenL (lst_of (s1 _ _ e)) ?_
  rw [List.length_map]
  walk_at "ss"
  refine k_r1 (by omega) (by omega) ?_
  have hto : (((ws.length : Nat) : Int) + 1).toNat = ws.length + 1 := by omega
  rw [hto]
  refine f_range (fun st σ H' => Same H H' ∧ ∃ (j : Nat) (acc : List Cd) (us : List V) (x4 x5 : Option V), σ = [some (.ref p), some (.int (j : Int)), some (.int (k : Int)), some (.ref D), x4, x5] ∧ H' D = some (.lst us) ∧ TpAll H' us (Cd.ds acc) ∧
    acc.length = st ∧ st ≤ j ∧ (st = 0 ∨ j ≤ ws.length) ∧ loopJ ws (tk ws n false) (jw false) (ws.length + 1) i = (loopJ ws (tk ws n false) (jw false) (ws.length + 1 - st) j).map fun r => (acc ++ r.1, r.2))
    ⟨s1, i, [], [], none, none, rfl, e1, .nil, rfl, by omega, .inl rfl, loop_acc⟩ (fun st σ H2 hi hW => ?_) (fun σ H2 hW => ?_)
  · obtain ⟨s2, j, acc, us, x4, x5, rfl, e2, t2, hac, hj, hjl, hL⟩ := hW
    obtain ⟨f, hf⟩ : ∃ g, ws.length + 1 - st = g + 1 := ⟨ws.length - st, by omega⟩
    rw [hf] at hL
    have lus : us.length = acc.length := by rw [t2.length, ds_len]
    walk_at "ss"
    refine ⟨p, ws, j, n, k, rfl, s2 _ _ e, sm, hk, by omega, fun v H3 s3 t3 => ?_⟩
    unfold loopJ at hL
    have e3 := s3 _ _ e2
    have s03 := s2.trans s3
    walk_at "ss"
    have t3 : LP H3 v (cP (tk ws n false j)) := t3
    cases ht : tk ws n false j with
    | none =>
      rw [ht] at hL t3
      obtain rfl : v = .non := t3
      have hL : loopJ ws (tk ws n false) (jw false) (ws.length + 1) i = none := hL
      walk_at "ss"
      refine iteT ?_
      walk_at "ss"
      refine q _ H3 s03 ?_
      unfold takeJ
      rw [hL]
      rfl
    | some r =>
      obtain ⟨c, j2⟩ := r
      rw [ht] at hL t3
      have hgt := tk_gt false ht
      obtain ⟨a3, x3, rfl, ea3, tx3⟩ := t3
      have hL : loopJ ws (tk ws n false) (jw false) (ws.length + 1) i = (if wordAt ws j2 = jw false then (match loopJ ws (tk ws n false) (jw false) f (j2 + 1) with | none => none | some (cs, k) => some (c :: cs, k)) else some ([c], j2)).map fun r => (acc ++ r.1, r.2) := hL
      walk_at "ss"
      refine iteF ?_
      walk_at "ss"
      refine m_ty (lst_of e3) ?_
      walk_at "ss"
      refine o_ixL (lst_of ea3) (atI_nat (j := 0) rfl) ?_
      walk_at "ss"
      refine m_app e3 (by rw [lus]; exact small1000' (by omega)) fun H4 c4 e4 => ?_
      have nD3 : a3 ≠ D := by
        intro z
        rw [z, e3] at ea3
        have ea3 := HO.lst.inj (Option.some.inj ea3)
        subst ea3
        cases acc with
        | nil => cases lus
        | cons a r =>
          cases r with
          | nil => cases lus
          | cons b r =>
            cases t2 with
            | cons _ t2 => cases t2 with
              | cons h _ =>
                have h : Tp H2 (.int (j2 : Int)) b.d := h
                cases b <;> rw [Cd.d] at h <;> cases h
      have s04 := c4.same s03 nD
      have t4 := tpSnoc ((t2.tk s3.tk).tk (c4.tk e3)) (tx3.tk (c4.tk e3))
      rw [← ds_snoc] at t4
      have e4w := s04 _ _ e
      walk_at "ss"
      refine o_ixL (lst_of (c4.at ea3 nD3)) (atI_nat (j := 1) rfl) ?_
      walk_at "ss"
      refine b_lenL (lst_of e4w) ?_
      rw [List.length_map]
      walk_at "ss"
      by_cases hlt : j2 < ws.length
      · rw [decide_eq_false (show ¬ (ws.length : Int) ≤ (j2 : Int) by omega)]
        refine iteF ?_
        walk_at "ss"
        refine o_ixL (lst_of e4w) (strs_at hlt) ?_
        walk_at "ss"
        refine o_neS rfl ?_
        walk_at "ss"
        by_cases hw : wordAt ws j2 = jw false
        · rw [if_pos hw] at hL
          rw [show decide (V.str (wordAt ws j2) = V.str ("and" : Str)) = true from decide_eq_true (congrArg V.str hw)]
          refine iteF ?_
          walk_at "ss"
          refine ⟨s04, j2 + 1, acc ++ [c], us ++ [x3], _, _, rfl, e4, t4, by rw [List.length_append, List.length_singleton]; omega, by omega, .inr (by omega), ?_⟩
          rw [hL, show ws.length + 1 - (st + 1) = f by omega]
          cases loopJ ws (tk ws n false) (jw false) f (j2 + 1) with
          | none => rfl
          | some r =>
            show some (acc ++ c :: r.1, r.2) = some (acc ++ [c] ++ r.1, r.2)
            simp
        · rw [show decide (V.str (wordAt ws j2) = V.str ("and" : Str)) = false from decide_eq_false (fun z => hw (V.str.inj z))]
          refine iteT ?_
          walk_at "ss"
          rw [if_neg hw] at hL
          have hL : loopJ ws (tk ws n false) (jw false) (ws.length + 1) i = some (acc ++ [c], j2) := hL
          refine b_lenL (lst_of e4) ?_
          walk_at "ss"
          refine o_eqS rfl ?_
          rw [List.length_append, lus, List.length_singleton]
          unfold takeJ at q
          rw [hL] at q
          walk_at "ss"
          by_cases h0 : acc = []
          · subst h0
            have lus : us = [] := List.eq_nil_of_length_eq_zero lus
            subst lus
            refine iteT ?_
            walk_at "ss"
            refine o_ixL (lst_of e4) (atI_nat (j := 0) rfl) ?_
            walk_at "ss"
            refine n_obj (lz (by simp)) fun p6 H6 n6 s6 e6 => ?_
            exact q _ H6 (s04.trans s6) (lp_mk e6 ((tx3.tk (c4.tk e3)).tk s6.tk))
          · have hl : acc.length ≠ 0 := fun z => h0 (List.eq_nil_of_length_eq_zero z)
            rw [decide_eq_false (fun z => by have := V.int.inj z; omega)]
            refine iteF ?_
            walk_at "ss"
            refine b_tup (lst_of e4) fun p6 H6 n6 s6 e6 => ?_
            walk_at "ss"
            refine n_obj (lz (by simp)) fun p7 H7 n7 s7 e7 => ?_
            walk_at "ss"
            refine n_obj (lz (by simp)) fun p8 H8 n8 s8 e8 => ?_
            refine q _ H8 (((s04.trans s6).trans s7).trans s8) (lp_mk e8 ?_)
            show Tp H8 _ (joinOf false (acc ++ [c])).d
            rw [joinOf_many h0, Cd.d]
            exact .tup (s8 _ _ e7) (.cons (.str _) (.cons (.tup (s8 _ _ (s7 _ _ e6)) (((t4.tk s6.tk).tk s7.tk).tk s8.tk)) .nil))
      · rw [decide_eq_true (show (ws.length : Int) ≤ (j2 : Int) by omega)]
        have hw : ¬ wordAt ws j2 = jw false := by
          rw [wordAt_out (by omega)]
          decide +kernel
        refine iteT ?_
        refine iteT ?_
        walk_at "ss"
        rw [if_neg hw] at hL
        have hL : loopJ ws (tk ws n false) (jw false) (ws.length + 1) i = some (acc ++ [c], j2) := hL
        refine b_lenL (lst_of e4) ?_
        walk_at "ss"
        refine o_eqS rfl ?_
        rw [List.length_append, lus, List.length_singleton]
        unfold takeJ at q
        rw [hL] at q
        walk_at "ss"
        by_cases h0 : acc = []
        · subst h0
          have lus : us = [] := List.eq_nil_of_length_eq_zero lus
          subst lus
          refine iteT ?_
          walk_at "ss"
          refine o_ixL (lst_of e4) (atI_nat (j := 0) rfl) ?_
          walk_at "ss"
          refine n_obj (lz (by simp)) fun p6 H6 n6 s6 e6 => ?_
          exact q _ H6 (s04.trans s6) (lp_mk e6 ((tx3.tk (c4.tk e3)).tk s6.tk))
        · have hl : acc.length ≠ 0 := fun z => h0 (List.eq_nil_of_length_eq_zero z)
          rw [decide_eq_false (fun z => by have := V.int.inj z; omega)]
          refine iteF ?_
          walk_at "ss"
          refine b_tup (lst_of e4) fun p6 H6 n6 s6 e6 => ?_
          walk_at "ss"
          refine n_obj (lz (by simp)) fun p7 H7 n7 s7 e7 => ?_
          walk_at "ss"
          refine n_obj (lz (by simp)) fun p8 H8 n8 s8 e8 => ?_
          refine q _ H8 (((s04.trans s6).trans s7).trans s8) (lp_mk e8 ?_)
          show Tp H8 _ (joinOf false (acc ++ [c])).d
          rw [joinOf_many h0, Cd.d]
          exact .tup (s8 _ _ e7) (.cons (.str _) (.cons (.tup (s8 _ _ (s7 _ _ e6)) (((t4.tk s6.tk).tk s7.tk).tk s8.tk)) .nil))
  · obtain ⟨s2, j, acc, us, x4, x5, rfl, e2, t2, hac, hj, hjl, hL⟩ := hW
    omega
theorem k_law_read_or' (T : Tx w K mg) (m : Nat) (ihA : C8.Cal P w K mg base (m + 6) "_law_read_and" (spA m) []) : C8.Cal P w K mg base (m + 1 + 6) "_law_read_or" (spR (m + 1)) [] := by
  refine cal_of (N := n_law_read_or) T.d_law_read_or sc_law_read_or (fun _ _ F => F.bindsN fun _ _ _ _ _ _ us hl => match us, hl with | [_, _, _], _ => rfl) (fun vs H Q E h => ?_) (fun f cdv A outer s H vs Q E hr h => ?_)
  · obtain ⟨p, ws, i, n, k, rfl, _⟩ := h
    rfl
  obtain ⟨p, ws, i, n, k, rfl, e, sm, hk, hm, q⟩ := h
  have hwl := sm.1
  refine ⟨_, (pss_cons (ps_asg (pe_lst pa_nil) (pg_name (i := 3) sc_law_read_or.nd rfl (Or.inl rfl))) (pss_cons (ps_for PassesOwn.never rfl (pi_range1 (by rfl) T.z_range (pa_cons (pe_op op_add3 (pe_callB (call_len2 : CallR _ _ (rLn K)) (by rfl) T.z_len (by decide +kernel) (pa_cons (pv 0) pa_nil)) pe_int) pa_nil)) (pg_name (i := 4) sc_law_read_or.nd rfl (Or.inl rfl)) (pss_cons (ps_asg (C8.pe_c ihA hr (by first | decide | omega) (by rfl) (pa_cons (pv 0) (pa_cons (pv 1) (pa_cons (pv 2) pa_nil)))) (pg_name (i := 5) sc_law_read_or.nd rfl (Or.inl rfl))) (pss_cons (ps_if (pt_cmpR op_isN2 (pv 5) pe_non (nomark _)) (pss_one (ps_ret pe_non)) pss_nil) (pss_cons (ps_expr (pe_bm PySem.F.plainAttrs_list PySem.F.slot_list_append PySem.F.type_list_append mt_append (pv 3) (pa_cons (pe_ix (ix_seq : IxR _ (rIx K)) (pv 5) pe_int (fun _ _ => rfl)) pa_nil) : PE _ _ (tBM K _ _ _ _))) (pss_cons (ps_asg (pe_ix (ix_seq : IxR _ (rIx K)) (pv 5) pe_int (fun _ _ => rfl)) (pg_name (i := 1) sc_law_read_or.nd rfl (Or.inl rfl))) (pss_cons (ps_if (PW.pt (pw_or (pt_cmpR op_ge (pv 1) (pe_callB (call_len2 : CallR _ _ (rLn K)) (by rfl) T.z_len (by decide +kernel) (pa_cons (pv 0) pa_nil)) (nomark _)) (pw_or1 (pt_cmpR (op_ne2 hr.units : OpR _ _ (rNe2 K)) (pe_ix (ix_seq : IxR _ (rIx K)) (pv 0) (pv 1) (fun _ _ => rfl)) pe_str (nomark _))))) (pss_one ps_break) pss_nil) (pss_one (ps_asg (pe_op op_add3 (pv 1) pe_int) (pg_name (i := 1) sc_law_read_or.nd rfl (Or.inl rfl)))))))))) (pss_cons (ps_if (pt_cmpR (op_eq2 hr.units : OpR _ _ (rEq2 K)) (pe_callB (call_len2 : CallR _ _ (rLn K)) (by rfl) T.z_len (by decide +kernel) (pa_cons (pv 3) pa_nil)) pe_int (nomark _)) (pss_one (ps_ret (pe_lst (pa_cons (pe_ix (ix_seq : IxR _ (rIx K)) (pv 3) pe_int (fun _ _ => rfl)) (pa_cons (pv 1) pa_nil))))) pss_nil) (pss_one (ps_ret (pe_lst (pa_cons (pe_tup (pa_cons pe_str (pa_cons (pe_callTy (call_tup2 : CallR _ _ (rTup K)) (by rfl) T.z_tuple (by decide +kernel) (pa_cons (pv 3) pa_nil)) pa_nil))) (pa_cons (pv 1) pa_nil)))))))), ?_⟩
  walk_at "ss"
  refine n_obj (Nat.zero_le _) fun D H1 nD s1 e1 => ?_
  walk_at "ss"
  refine b_lenL (lst_of (s1 _ _ e)) ?_
  rw [List.length_map]
  walk_at "ss"
  refine k_r1 (by omega) (by omega) ?_
  have hto : (((ws.length : Nat) : Int) + 1).toNat = ws.length + 1 := by omega
  rw [hto]
  refine f_range (fun st σ H' => Same H H' ∧ ∃ (j : Nat) (acc : List Cd) (us : List V) (x4 x5 : Option V), σ = [some (.ref p), some (.int (j : Int)), some (.int (k : Int)), some (.ref D), x4, x5] ∧ H' D = some (.lst us) ∧ TpAll H' us (Cd.ds acc) ∧
    acc.length = st ∧ st ≤ j ∧ (st = 0 ∨ j ≤ ws.length) ∧ loopJ ws (tk ws n true) (jw true) (ws.length + 1) i = (loopJ ws (tk ws n true) (jw true) (ws.length + 1 - st) j).map fun r => (acc ++ r.1, r.2))
    ⟨s1, i, [], [], none, none, rfl, e1, .nil, rfl, by omega, .inl rfl, loop_acc⟩ (fun st σ H2 hi hW => ?_) (fun σ H2 hW => ?_)
  · obtain ⟨s2, j, acc, us, x4, x5, rfl, e2, t2, hac, hj, hjl, hL⟩ := hW
    obtain ⟨f, hf⟩ : ∃ g, ws.length + 1 - st = g + 1 := ⟨ws.length - st, by omega⟩
    rw [hf] at hL
    have lus : us.length = acc.length := by rw [t2.length, ds_len]
    walk_at "ss"
    refine ⟨p, ws, j, n, k, rfl, s2 _ _ e, sm, hk, by omega, fun v H3 s3 t3 => ?_⟩
    unfold loopJ at hL
    have e3 := s3 _ _ e2
    have s03 := s2.trans s3
    walk_at "ss"
    have t3 : LP H3 v (cP (tk ws n true j)) := t3
    cases ht : tk ws n true j with
    | none =>
      rw [ht] at hL t3
      obtain rfl : v = .non := t3
      have hL : loopJ ws (tk ws n true) (jw true) (ws.length + 1) i = none := hL
      walk_at "ss"
      refine iteT ?_
      walk_at "ss"
      refine q _ H3 s03 ?_
      unfold takeJ
      rw [hL]
      rfl
    | some r =>
      obtain ⟨c, j2⟩ := r
      rw [ht] at hL t3
      have hgt := tk_gt true ht
      obtain ⟨a3, x3, rfl, ea3, tx3⟩ := t3
      have hL : loopJ ws (tk ws n true) (jw true) (ws.length + 1) i = (if wordAt ws j2 = jw true then (match loopJ ws (tk ws n true) (jw true) f (j2 + 1) with | none => none | some (cs, k) => some (c :: cs, k)) else some ([c], j2)).map fun r => (acc ++ r.1, r.2) := hL
      walk_at "ss"
      refine iteF ?_
      walk_at "ss"
      refine m_ty (lst_of e3) ?_
      walk_at "ss"
      refine o_ixL (lst_of ea3) (atI_nat (j := 0) rfl) ?_
      walk_at "ss"
      refine m_app e3 (by rw [lus]; exact small1000' (by omega)) fun H4 c4 e4 => ?_
      have nD3 : a3 ≠ D := by
        intro z
        rw [z, e3] at ea3
        have ea3 := HO.lst.inj (Option.some.inj ea3)
        subst ea3
        cases acc with
        | nil => cases lus
        | cons a r =>
          cases r with
          | nil => cases lus
          | cons b r =>
            cases t2 with
            | cons _ t2 => cases t2 with
              | cons h _ =>
                have h : Tp H2 (.int (j2 : Int)) b.d := h
                cases b <;> rw [Cd.d] at h <;> cases h
      have s04 := c4.same s03 nD
      have t4 := tpSnoc ((t2.tk s3.tk).tk (c4.tk e3)) (tx3.tk (c4.tk e3))
      rw [← ds_snoc] at t4
      have e4w := s04 _ _ e
      walk_at "ss"
      refine o_ixL (lst_of (c4.at ea3 nD3)) (atI_nat (j := 1) rfl) ?_
      walk_at "ss"
      refine b_lenL (lst_of e4w) ?_
      rw [List.length_map]
      walk_at "ss"
      by_cases hlt : j2 < ws.length
      · rw [decide_eq_false (show ¬ (ws.length : Int) ≤ (j2 : Int) by omega)]
        refine iteF ?_
        walk_at "ss"
        refine o_ixL (lst_of e4w) (strs_at hlt) ?_
        walk_at "ss"
        refine o_neS rfl ?_
        walk_at "ss"
        by_cases hw : wordAt ws j2 = jw true
        · rw [if_pos hw] at hL
          rw [show decide (V.str (wordAt ws j2) = V.str ("or" : Str)) = true from decide_eq_true (congrArg V.str hw)]
          refine iteF ?_
          walk_at "ss"
          refine ⟨s04, j2 + 1, acc ++ [c], us ++ [x3], _, _, rfl, e4, t4, by rw [List.length_append, List.length_singleton]; omega, by omega, .inr (by omega), ?_⟩
          rw [hL, show ws.length + 1 - (st + 1) = f by omega]
          cases loopJ ws (tk ws n true) (jw true) f (j2 + 1) with
          | none => rfl
          | some r =>
            show some (acc ++ c :: r.1, r.2) = some (acc ++ [c] ++ r.1, r.2)
            simp
        · rw [show decide (V.str (wordAt ws j2) = V.str ("or" : Str)) = false from decide_eq_false (fun z => hw (V.str.inj z))]
          refine iteT ?_
          walk_at "ss"
          rw [if_neg hw] at hL
          have hL : loopJ ws (tk ws n true) (jw true) (ws.length + 1) i = some (acc ++ [c], j2) := hL
          refine b_lenL (lst_of e4) ?_
          walk_at "ss"
          refine o_eqS rfl ?_
          rw [List.length_append, lus, List.length_singleton]
          unfold takeJ at q
          rw [hL] at q
          walk_at "ss"
          by_cases h0 : acc = []
          · subst h0
            have lus : us = [] := List.eq_nil_of_length_eq_zero lus
            subst lus
            refine iteT ?_
            walk_at "ss"
            refine o_ixL (lst_of e4) (atI_nat (j := 0) rfl) ?_
            walk_at "ss"
            refine n_obj (lz (by simp)) fun p6 H6 n6 s6 e6 => ?_
            exact q _ H6 (s04.trans s6) (lp_mk e6 ((tx3.tk (c4.tk e3)).tk s6.tk))
          · have hl : acc.length ≠ 0 := fun z => h0 (List.eq_nil_of_length_eq_zero z)
            rw [decide_eq_false (fun z => by have := V.int.inj z; omega)]
            refine iteF ?_
            walk_at "ss"
            refine b_tup (lst_of e4) fun p6 H6 n6 s6 e6 => ?_
            walk_at "ss"
            refine n_obj (lz (by simp)) fun p7 H7 n7 s7 e7 => ?_
            walk_at "ss"
            refine n_obj (lz (by simp)) fun p8 H8 n8 s8 e8 => ?_
            refine q _ H8 (((s04.trans s6).trans s7).trans s8) (lp_mk e8 ?_)
            show Tp H8 _ (joinOf true (acc ++ [c])).d
            rw [joinOf_many h0, Cd.d]
            exact .tup (s8 _ _ e7) (.cons (.str _) (.cons (.tup (s8 _ _ (s7 _ _ e6)) (((t4.tk s6.tk).tk s7.tk).tk s8.tk)) .nil))
      · rw [decide_eq_true (show (ws.length : Int) ≤ (j2 : Int) by omega)]
        have hw : ¬ wordAt ws j2 = jw true := by
          rw [wordAt_out (by omega)]
          decide +kernel
        refine iteT ?_
        refine iteT ?_
        walk_at "ss"
        rw [if_neg hw] at hL
        have hL : loopJ ws (tk ws n true) (jw true) (ws.length + 1) i = some (acc ++ [c], j2) := hL
        refine b_lenL (lst_of e4) ?_
        walk_at "ss"
        refine o_eqS rfl ?_
        rw [List.length_append, lus, List.length_singleton]
        unfold takeJ at q
        rw [hL] at q
        walk_at "ss"
        by_cases h0 : acc = []
        · subst h0
          have lus : us = [] := List.eq_nil_of_length_eq_zero lus
          subst lus
          refine iteT ?_
          walk_at "ss"
          refine o_ixL (lst_of e4) (atI_nat (j := 0) rfl) ?_
          walk_at "ss"
          refine n_obj (lz (by simp)) fun p6 H6 n6 s6 e6 => ?_
          exact q _ H6 (s04.trans s6) (lp_mk e6 ((tx3.tk (c4.tk e3)).tk s6.tk))
        · have hl : acc.length ≠ 0 := fun z => h0 (List.eq_nil_of_length_eq_zero z)
          rw [decide_eq_false (fun z => by have := V.int.inj z; omega)]
          refine iteF ?_
          walk_at "ss"
          refine b_tup (lst_of e4) fun p6 H6 n6 s6 e6 => ?_
          walk_at "ss"
          refine n_obj (lz (by simp)) fun p7 H7 n7 s7 e7 => ?_
          walk_at "ss"
          refine n_obj (lz (by simp)) fun p8 H8 n8 s8 e8 => ?_
          refine q _ H8 (((s04.trans s6).trans s7).trans s8) (lp_mk e8 ?_)
          show Tp H8 _ (joinOf true (acc ++ [c])).d
          rw [joinOf_many h0, Cd.d]
          exact .tup (s8 _ _ e7) (.cons (.str _) (.cons (.tup (s8 _ _ (s7 _ _ e6)) (((t4.tk s6.tk).tk s7.tk).tk s8.tk)) .nil))
  · obtain ⟨s2, j, acc, us, x4, x5, rfl, e2, t2, hac, hj, hjl, hL⟩ := hW
    omega
end
end K03
namespace K03
open PySem PySem.Spec PyProof.Rows L2 Wy WM W3 W4 W5 W7 W8 W6

-- IH _law_read_not _law_read_not ihN
-- IH _law_read_not _law_read_or ihR
-- IH _law_read_and _law_read_not ihN
-- IH _law_read_or _law_read_and ihA
section
variable {P : Program} {w : World} {K : PySem.W.Frag} {mg : Str → Option Value} {base : Heap}
theorem k_law_read_not' (T : Tx w K mg) (m : Nat) (ihN : C8.Cal P w K mg base (m + 6) "_law_read_not" (spN m) []) (ihR : C8.Cal P w K mg base (m + 6) "_law_read_or" (spR m) []) : C8.Cal P w K mg base (m + 1 + 6) "_law_read_not" (spN (m + 1)) [] := by
  refine cal_of (N := n_law_read_not) T.d_law_read_not sc_law_read_not (fun _ _ F => F.bindsN fun _ _ _ _ _ _ us hl => match us, hl with | [_, _, _], _ => rfl) (fun vs H Q E h => ?_) (fun f cdv A outer s H vs Q E hr h => ?_)
  · obtain ⟨p, ws, i, n, k, rfl, _⟩ := h
    rfl
  obtain ⟨p, ws, i, n, k, rfl, e, sm, hk, hm, q⟩ := h
  refine ⟨_, (pss_cons (ps_if (PW.pt (pw_or (pt_cmpR op_ge (pv 1) (pe_callB (call_len2 : CallR _ _ (rLn K)) (by rfl) T.z_len (by decide +kernel) (pa_cons (pv 0) pa_nil)) (nomark _)) (pw_or1 (pt_cmpR (op_ni2 : OpR _ _ (rNi2 K)) (pe_ix (ix_seq : IxR _ (rIx K)) (pv 0) (pv 1) (fun _ _ => rfl)) (pe_lst (pa_cons pe_str (pa_cons pe_str pa_nil))) (by rfl))))) (pss_one (ps_ret (C8.pe_c (k_law_read_cmp T) hr (by first | decide | omega) (by rfl) (pa_cons (pv 0) (pa_cons (pv 1) pa_nil))))) pss_nil) (pss_cons (ps_if (pt_cmpR (op_eq2 hr.units : OpR _ _ (rEq2 K)) (pv 2) pe_int (nomark _)) (pss_one (ps_ret pe_non)) pss_nil) (pss_cons (ps_if (pt_cmpR (op_eq2 hr.units : OpR _ _ (rEq2 K)) (pe_ix (ix_seq : IxR _ (rIx K)) (pv 0) (pv 1) (fun _ _ => rfl)) pe_str (nomark _)) (pss_cons (ps_asg (C8.pe_c ihN hr (by first | decide | omega) (by rfl) (pa_cons (pv 0) (pa_cons (pe_op op_add3 (pv 1) pe_int) (pa_cons (pe_op op_add3 (pv 2) pe_int) pa_nil)))) (pg_name (i := 3) sc_law_read_not.nd rfl (Or.inl rfl))) (pss_cons (ps_if (pt_cmpR op_isN2 (pv 3) pe_non (nomark _)) (pss_one (ps_ret pe_non)) pss_nil) (pss_one (ps_ret (pe_lst (pa_cons (pe_tup (pa_cons pe_str (pa_cons (pe_ix (ix_seq : IxR _ (rIx K)) (pv 3) pe_int (fun _ _ => rfl)) pa_nil))) (pa_cons (pe_ix (ix_seq : IxR _ (rIx K)) (pv 3) pe_int (fun _ _ => rfl)) pa_nil))))))) pss_nil) (pss_cons (ps_asg (C8.pe_c ihR hr (by first | decide | omega) (by rfl) (pa_cons (pv 0) (pa_cons (pe_op op_add3 (pv 1) pe_int) (pa_cons (pe_op op_add3 (pv 2) pe_int) pa_nil)))) (pg_name (i := 3) sc_law_read_not.nd rfl (Or.inl rfl))) (pss_cons (ps_if (PW.pt (pw_or (pt_cmpR op_isN2 (pv 3) pe_non (nomark _)) (pw_or (pt_cmpR op_ge (pe_ix (ix_seq : IxR _ (rIx K)) (pv 3) pe_int (fun _ _ => rfl)) (pe_callB (call_len2 : CallR _ _ (rLn K)) (by rfl) T.z_len (by decide +kernel) (pa_cons (pv 0) pa_nil)) (nomark _)) (pw_or1 (pt_cmpR (op_ne2 hr.units : OpR _ _ (rNe2 K)) (pe_ix (ix_seq : IxR _ (rIx K)) (pv 0) (pe_ix (ix_seq : IxR _ (rIx K)) (pv 3) pe_int (fun _ _ => rfl)) (fun _ _ => rfl)) pe_str (nomark _)))))) (pss_one (ps_ret pe_non)) pss_nil) (pss_one (ps_ret (pe_lst (pa_cons (pe_ix (ix_seq : IxR _ (rIx K)) (pv 3) pe_int (fun _ _ => rfl)) (pa_cons (pe_op op_add3 (pe_ix (ix_seq : IxR _ (rIx K)) (pv 3) pe_int (fun _ _ => rfl)) pe_int) pa_nil)))))))))), ?_⟩
  walk_at "ss"
  refine b_lenL (lst_of e) ?_
  rw [List.length_map]
  walk_at "ss"
  have base2 : wordAt ws i ∉ (["not", "("] : List Str) → ∀ v H', Same H H' → LP H' v (cP (takeCmp ws i)) → Q v H' := fun hs => by
    have hs : ¬ wordAt ws i = "not" ∧ ¬ wordAt ws i = "(" := by simpa using hs
    cases n with
    | zero =>
      unfold opnd at q
      rw [if_neg (fun z => z.elim hs.1 hs.2)] at q
      exact q
    | succ n =>
      unfold opnd at q
      rw [if_neg hs.1, if_neg hs.2] at q
      exact q
  by_cases hi : i < ws.length
  · rw [decide_eq_false (show ¬ (ws.length : Int) ≤ (i : Int) by omega)]
    refine iteF ?_
    walk_at "ss"
    refine o_ixL (lst_of e) (strs_at hi) ?_
    walk_at "ss"
    refine n_obj (lz (by simp)) fun p2 H2 n2 s2 e2 => ?_
    have e1 := s2 _ _ e
    refine o_niL (lst_of e2) rfl (by decide +kernel) ?_
    walk_at "ss"
    rw [show inV (.str (wordAt ws i)) [.str "not", .str "("] = decide (wordAt ws i ∈ (["not", "("] : List Str)) from inV_list (l := ["not", "("])]
    by_cases hs : wordAt ws i ∈ (["not", "("] : List Str)
    · rw [decide_eq_true hs]
      have hs : wordAt ws i = "not" ∨ wordAt ws i = "(" := by simpa using hs
      refine iteF ?_
      walk_at "ss"
      refine o_eqS rfl ?_
      walk_at "ss"
      cases n with
      | zero =>
        unfold opnd at q
        rw [if_pos hs] at q
        have hk : k = 8 := by omega
        subst hk
        refine iteT ?_
        walk_at "ss"
        exact q _ H2 s2 rfl
      | succ n =>
        unfold opnd at q
        rw [decide_eq_false (fun z => by have := V.int.inj z; omega)]
        refine iteF ?_
        walk_at "ss"
        refine o_ixL (lst_of e1) (strs_at hi) ?_
        walk_at "ss"
        refine o_eqS rfl ?_
        walk_at "ss"
        refine ite2 (fun e2 => ?_) (fun e2 => ?_)
        · have e2 := V.str.inj (of_decide_eq_true e2)
          rw [if_pos e2] at q
          walk_at "ss"
          refine ⟨p, ws, i + 1, n, k + 1, rfl, e1, sm, by omega, by omega, fun v3 H3 s3 t3 => ?_⟩
          cases ho : opnd ws n (i + 1) with
          | none =>
            rw [ho] at q t3
            obtain rfl : v3 = .non := t3
            walk_at "ss"
            refine iteT ?_
            walk_at "ss"
            exact q _ H3 (s2.trans s3) rfl
          | some r =>
            obtain ⟨c, j⟩ := r
            rw [ho] at q t3
            obtain ⟨a3, u3, rfl, ea3, tu3⟩ := t3
            walk_at "ss"
            refine iteF ?_
            walk_at "ss"
            refine o_ixL (lst_of ea3) (atI_nat (j := 0) rfl) ?_
            walk_at "ss"
            refine n_obj (lz (by simp)) fun p4 H4 n4 s4 e4 => ?_
            walk_at "ss"
            refine o_ixL (lst_of (s4 _ _ ea3)) (atI_nat (j := 1) rfl) ?_
            walk_at "ss"
            refine n_obj (lz (by simp)) fun p5 H5 n5 s5 e5 => ?_
            refine q _ H5 (((s2.trans s3).trans s4).trans s5) (lp_mk e5 ?_)
            show Tp H5 _ (Cd.no c).d
            rw [Cd.d]
            exact .tup (s5 _ _ e4) (.cons (.str _) (.cons ((tu3.tk s4.tk).tk s5.tk) .nil))
        · have e2 : ¬ wordAt ws i = "not" := fun z => e2 (by rw [z]; exact decide_eq_true rfl)
          have e3 : wordAt ws i = "(" := hs.resolve_left e2
          rw [if_neg e2, if_pos e3] at q
          walk_at "ss"
          refine ⟨p, ws, i + 1, n, k + 1, rfl, e1, sm, by omega, by omega, fun v3 H3 s3 t3 => ?_⟩
          have t3 : LP H3 v3 (cP (takeJ ws (takeJ ws (opnd ws n) false) true (i + 1))) := t3
          have e13 := s3 _ _ e1
          cases ho : takeJ ws (takeJ ws (opnd ws n) false) true (i + 1) with
          | none =>
            rw [ho] at q t3
            obtain rfl : v3 = .non := t3
            walk_at "ss"
            refine iteT ?_
            refine iteT ?_
            walk_at "ss"
            exact q _ H3 (s2.trans s3) rfl
          | some r =>
            obtain ⟨c, j⟩ := r
            rw [ho] at q t3
            dsimp only at q
            obtain ⟨a3, u3, rfl, ea3, tu3⟩ := t3
            walk_at "ss"
            refine iteF ?_
            walk_at "ss"
            refine o_ixL (lst_of ea3) (atI_nat (j := 1) rfl) ?_
            walk_at "ss"
            refine b_lenL (lst_of e13) ?_
            rw [List.length_map]
            walk_at "ss"
            by_cases hj : j < ws.length
            · rw [decide_eq_false (show ¬ (ws.length : Int) ≤ (j : Int) by omega)]
              refine iteF ?_
              walk_at "ss"
              refine o_ixL (lst_of ea3) (atI_nat (j := 1) rfl) ?_
              refine o_ixL (lst_of e13) (strs_at hj) ?_
              walk_at "ss"
              refine o_neS rfl ?_
              walk_at "ss"
              by_cases hc : wordAt ws j = ")"
              · rw [if_pos hc] at q
                rw [show decide (V.str (wordAt ws j) = V.str (")" : Str)) = true from decide_eq_true (congrArg V.str hc)]
                refine iteF ?_
                walk_at "ss"
                refine o_ixL (lst_of ea3) (atI_nat (j := 0) rfl) ?_
                walk_at "ss"
                refine o_ixL (lst_of ea3) (atI_nat (j := 1) rfl) ?_
                walk_at "ss"
                refine n_obj (lz (by simp)) fun p5 H5 n5 s5 e5 => ?_
                exact q _ H5 ((s2.trans s3).trans s5) (lp_mk (j := j + 1) e5 (tu3.tk s5.tk))
              · rw [if_neg hc] at q
                rw [show decide (V.str (wordAt ws j) = V.str (")" : Str)) = false from decide_eq_false (fun z => hc (V.str.inj z))]
                refine iteT ?_
                walk_at "ss"
                exact q _ H3 (s2.trans s3) rfl
            · rw [if_neg (fun z => by rw [wordAt_out (by omega)] at z; revert z; decide +kernel)] at q
              rw [decide_eq_true (show (ws.length : Int) ≤ (j : Int) by omega)]
              refine iteT ?_
              refine iteT ?_
              walk_at "ss"
              exact q _ H3 (s2.trans s3) rfl
    · rw [decide_eq_false hs]
      refine iteT ?_
      walk_at "ss"
      exact ⟨p, ws, i, rfl, e1, sm, fun v3 H3 s3 t3 => base2 hs v3 H3 (s2.trans s3) t3⟩
  · rw [decide_eq_true (show (ws.length : Int) ≤ (i : Int) by omega)]
    have hs : wordAt ws i ∉ (["not", "("] : List Str) := by
      rw [wordAt_out (by omega)]
      decide +kernel
    refine iteT ?_
    refine iteT ?_
    walk_at "ss"
    exact ⟨p, ws, i, rfl, e, sm, fun v3 H3 s3 t3 => base2 hs v3 H3 s3 t3⟩
theorem spN_no (vs : List V) (H : Hp) (Q : VK) (E : XK) : ¬ spN 0 vs H Q E := by
  rintro ⟨_, _, _, _, _, _, _, _, _, h, _⟩
  omega
theorem spA_no (vs : List V) (H : Hp) (Q : VK) (E : XK) : ¬ spA 0 vs H Q E := by
  rintro ⟨_, _, _, _, _, _, _, _, _, h, _⟩
  omega
theorem spR_no (vs : List V) (H : Hp) (Q : VK) (E : XK) : ¬ spR 0 vs H Q E := by
  rintro ⟨_, _, _, _, _, _, _, _, _, h, _⟩
  omega
theorem k_three (T : Tx w K mg) : ∀ m : Nat, C8.Cal P w K mg base (m + 6) "_law_read_not" (spN m) [] ∧ C8.Cal P w K mg base (m + 6) "_law_read_and" (spA m) [] ∧ C8.Cal P w K mg base (m + 6) "_law_read_or" (spR m) []
  | 0 => ⟨cal_never (ps := ["words", "at", "opened"]) T.d_law_read_not (fun _ _ F => F.bindsN fun _ _ _ _ _ _ us hl => match us, hl with | [_, _, _], _ => rfl) spN_no, cal_never (ps := ["words", "at", "opened"]) T.d_law_read_and (fun _ _ F => F.bindsN fun _ _ _ _ _ _ us hl => match us, hl with | [_, _, _], _ => rfl) spA_no, cal_never (ps := ["words", "at", "opened"]) T.d_law_read_or (fun _ _ F => F.bindsN fun _ _ _ _ _ _ us hl => match us, hl with | [_, _, _], _ => rfl) spR_no⟩
  | m + 1 => ⟨k_law_read_not' T m (k_three T m).1 (k_three T m).2.2, k_law_read_and' T m (k_three T m).1, k_law_read_or' T m (k_three T m).2.1⟩
theorem k_law_read_or (T : Tx w K mg) : C8.Cal P w K mg base 33 "_law_read_or" (spR 27) [] := (k_three T 27).2.2
theorem k_law_read_condition (T : Tx w K mg) : C8.Cal P w K mg base 34 "_law_read_condition" spCondOf [] := by
  refine cal_of (N := n_law_read_condition) T.d_law_read_condition sc_law_read_condition (fun _ _ F => F.bindsN fun _ _ _ _ _ _ us hl => match us, hl with | [_], _ => rfl) (fun vs H Q E h => ?_) (fun f cdv A outer s H vs Q E hr h => ?_)
  · obtain ⟨p, ws, rfl, _⟩ := h
    rfl
  · obtain ⟨p, ws, rfl, e, sm, q⟩ := h
    refine ⟨_, (pss_cons (ps_asg (C8.pe_c (k_law_read_or T) hr (by first | decide | omega) (by rfl) (pa_cons (pv 0) (pa_cons pe_int (pa_cons pe_int pa_nil)))) (pg_name (i := 1) sc_law_read_condition.nd rfl (Or.inl rfl))) (pss_cons (ps_if (PW.pt (pw_or (pt_cmpR op_isN2 (pv 1) pe_non (nomark _)) (pw_or1 (pt_cmpR (op_ne2 hr.units : OpR _ _ (rNe2 K)) (pe_ix (ix_seq : IxR _ (rIx K)) (pv 1) pe_int (fun _ _ => rfl)) (pe_callB (call_len2 : CallR _ _ (rLn K)) (by rfl) T.z_len (by decide +kernel) (pa_cons (pv 0) pa_nil)) (nomark _))))) (pss_one (ps_ret pe_non)) pss_nil) (pss_one (ps_ret (pe_ix (ix_seq : IxR _ (rIx K)) (pv 1) pe_int (fun _ _ => rfl)))))), ?_⟩
    walk_at "ss"
    refine ⟨p, ws, 0, 8, 0, rfl, e, sm, by omega, by omega, fun v H1 s1 t1 => ?_⟩
    have t1 : LP H1 v (cP (takeOr ws 8 0)) := t1
    unfold readC at q
    cases ht : takeOr ws 8 0 with
    | none =>
      rw [ht] at t1 q
      obtain rfl : v = .non := t1
      walk_at "ss"
      refine iteT ?_
      refine iteT ?_
      walk_at "ss"
      exact q _ H1 s1 .non
    | some r =>
      obtain ⟨c, j⟩ := r
      rw [ht] at t1 q
      obtain ⟨a, u, rfl, ea, tu⟩ := t1
      have q : ∀ v H', Same H H' → Tp H' v (oC (if j = ws.length then some c else none)) → Q v H' := q
      walk_at "ss"
      refine iteF ?_
      walk_at "ss"
      refine o_ixL (lst_of ea) (atI_nat (j := 1) rfl) ?_
      walk_at "ss"
      refine b_lenL (lst_of (s1 _ _ e)) ?_
      rw [List.length_map]
      refine o_neS rfl ?_
      walk_at "ss"
      by_cases hj : j = ws.length
      · rw [if_pos hj] at q
        rw [hj, decide_eq_true rfl]
        refine iteF ?_
        walk_at "ss"
        refine o_ixL (lst_of ea) (atI_nat (j := 0) rfl) ?_
        exact q _ H1 s1 tu
      · rw [if_neg hj] at q
        rw [decide_eq_false (fun h => hj (by have := V.int.inj h; omega))]
        refine iteT ?_
        walk_at "ss"
        exact q _ H1 s1 .non
end
end K03
namespace K03
open PySem PySem.Spec PyProof.Rows L2 Wy WM W3 W4 W5 W7 W8 W9 W10 W6

-- IH write_condition _write_below ihB
-- IH _write_below write_condition ihC
-- REC write_expression 2
section
variable {P : Program} {w : World} {K : PySem.W.Frag} {mg : Str → Option Value} {base : Heap}
def spWC (m : Nat) : Sp := fun vs H Q _ => ∃ (v : V) (c : Cd) (n : Nat), vs = [v] ∧ Tp H v c.d ∧ okC c ∧ dp n c ∧ 2 * n < m ∧ wt c ≤ 100000 ∧ ∀ H', Same H H' → Q (.str (textC c)) H'
def spWB (m : Nat) : Sp := fun vs H Q _ => ∃ (key : Str) (o : Bool) (v : V) (c : Cd) (n : Nat), vs = [.str key, v] ∧ (key = "not" ∧ o = false ∨ key = jw o) ∧ Tp H v c.d ∧ okC c ∧ dp n c ∧ 2 * n + 1 < m ∧ wt c ≤ 100000 ∧ ∀ H', Same H H' → Q (.str (wrap (needB o c) (textC c))) H'
theorem k_write_below' (T : Tx w K mg) (m : Nat) (ihC : C8.Cal P w K mg base (m + 4) "write_condition" (spWC m) []) : C8.Cal P w K mg base (m + 1 + 4) "_write_below" (spWB (m + 1)) [] := by
  refine cal_of (N := n_write_below) T.d_write_below sc_write_below (fun _ _ F => F.bindsN fun _ _ _ _ _ _ us hl => match us, hl with | [_, _], _ => rfl) (fun vs H Q E h => ?_) (fun f cdv A outer s H vs Q E hr h => ?_)
  · obtain ⟨key, o, v, c, n, rfl, _⟩ := h
    rfl
  obtain ⟨key, o, v, c, n, rfl, hkey, tv, ok, hd, hm, hw, q⟩ := h
  refine ⟨_, (pss_cons (ps_asg (C8.pe_c ihC hr (by first | decide | omega) (by rfl) (pa_cons (pv 1) pa_nil)) (pg_name (i := 2) sc_write_below.nd rfl (Or.inl rfl))) (pss_one (ps_ret (pe_ifExp (pt_cmpR (op_in2 : OpR _ _ (rIn2 K)) (pe_ix (ix_seq : IxR _ (rIx K)) (pv 1) pe_int (fun _ _ => rfl)) (W6.pe_kd (T.k_PARENTHESES_BELOW).choose_spec.choose_spec (C8.pe_gc (by rfl) T.g_PARENTHESES_BELOW) (pv 0) (fun _ _ => rfl)) (by rfl)) (pe_joined2 (PJ.cons pe_str (PJ.cons (pe_fmt (pv 2)) (PJ.cons pe_str PJ.nil)))) (pv 2))))), ?_⟩
  obtain ⟨a, xs, rfl, ea, e0⟩ := cd_first tv
  have hl := text_len ok
  walk_at "ss"
  refine ⟨_, c, n, rfl, tv, ok, hd, by omega, hw, fun H1 s1 => ?_⟩
  walk_at "ss"
  refine o_ixT (tup_of (s1 _ _ ea)) (atI_nat (j := 0) e0) ?_
  walk_at "ss"
  obtain ⟨t, et, st⟩ : ∃ t, PySem.W.nsIn K (He.ga K "PARENTHESES_BELOW") key = some (some (.ref t)) ∧ ∀ H, SqT K H t ((if o then (["or"] : List Str) else ["and", "or"]).map V.str) := by
    rcases hkey with ⟨rfl, rfl⟩ | rfl
    · exact T.v_PARENTHESES_BELOW_not
    · cases o
      · exact T.v_PARENTHESES_BELOW_and
      · exact T.v_PARENTHESES_BELOW_or
  refine o_kd et ?_
  refine o_inT (st _) rfl (by cases o <;> decide +kernel) ?_
  walk_at "ss"
  rw [need_in]
  cases hn : needB o c with
  | true =>
    rw [hn] at q
    refine iteT ?_
    walk_at "ss"
    refine k_j (lz (by decide)) ?_
    walk_at "ss"
    refine k_fS (Nat.le_trans hl (Nat.le_trans hw (by decide))) ?_
    refine k_j (by rw [app_len]; show 0 + 1 + _ ≤ _; exact Nat.le_trans (Nat.add_le_add_left (Nat.le_trans hl hw) _) (by decide)) ?_
    walk_at "ss"
    refine k_j (by rw [app_len, app_len]; show 0 + 1 + _ + 1 ≤ _; exact Nat.le_trans (Nat.add_le_add_right (Nat.add_le_add_left (Nat.le_trans hl hw) _) _) (by decide)) ?_
    walk_at "ss"
    have e5 : Str.empty ++ ("(" : Str) ++ textC c ++ (")" : Str) = wrap true (textC c) := by
      refine str_ext ?_
      show _ = (("(" : Str) ++ textC c ++ (")" : Str)).cps.toList
      rw [app_tl, app_tl, app_tl, app_tl, app_tl]
      rfl
    rw [e5]
    exact q H1 s1
  | false =>
    rw [hn] at q
    refine iteF ?_
    walk_at "ss"
    exact q H1 s1
theorem k_write_condition' (T : Tx w K mg) (m : Nat) (ihB : C8.Cal P w K mg base (m + 4) "_write_below" (spWB m) []) : C8.Cal P w K mg base (m + 1 + 4) "write_condition" (spWC (m + 1)) [] := by
  refine cal_of (N := n_write_condition) T.d_write_condition sc_write_condition (fun _ _ F => F.bindsN fun _ _ _ _ _ _ us hl => match us, hl with | [_], _ => rfl) (fun vs H Q E h => ?_) (fun f cdv A outer s H vs Q E hr h => ?_)
  · obtain ⟨v, c, n, rfl, _⟩ := h
    rfl
  obtain ⟨v, c, n, rfl, tv, ok, hd, hm, hw, q⟩ := h
  have hl := text_len ok
  refine ⟨_, (pss_cons (ps_if (pt_cmpR (op_eq2 hr.units : OpR _ _ (rEq2 K)) (pe_ix (ix_seq : IxR _ (rIx K)) (pv 0) pe_int (fun _ _ => rfl)) pe_str (nomark _)) (pss_cons (ps_asg (pv 0) (pg_tup (by rfl) (pgs_cons (pg_name (i := 1) sc_write_condition.nd rfl (Or.inl rfl)) (pgs_cons (pg_name (i := 2) sc_write_condition.nd rfl (Or.inl rfl)) (pgs_cons (pg_name (i := 3) sc_write_condition.nd rfl (Or.inl rfl)) (pgs_cons (pg_name (i := 4) sc_write_condition.nd rfl (Or.inl rfl)) pgs_nil)))) : PG _ _ (gTup K _ _))) (pss_one (ps_ret (pe_joined2 (PJ.cons (pe_fmt (C8.pe_c (k_write_expression T 2) hr (by first | decide | omega) (by rfl) (pa_cons (pv 3) pa_nil))) (PJ.cons pe_str (PJ.cons (pe_fmt (pv 2)) (PJ.cons pe_str (PJ.cons (pe_fmt (C8.pe_c (k_write_expression T 2) hr (by first | decide | omega) (by rfl) (pa_cons (pv 4) pa_nil))) PJ.nil))))))))) pss_nil) (pss_cons (ps_if (pt_cmpR (op_eq2 hr.units : OpR _ _ (rEq2 K)) (pe_ix (ix_seq : IxR _ (rIx K)) (pv 0) pe_int (fun _ _ => rfl)) pe_str (nomark _)) (pss_one (ps_ret (pe_op op_add3 pe_str (C8.pe_c ihB hr (by first | decide | omega) (by rfl) (pa_cons pe_str (pa_cons (pe_ix (ix_seq : IxR _ (rIx K)) (pv 0) pe_int (fun _ _ => rfl)) pa_nil)))))) pss_nil) (pss_cons (ps_asg (pv 0) (pg_tup (by rfl) (pgs_cons (pg_name (i := 5) sc_write_condition.nd rfl (Or.inr rfl)) (pgs_cons (pg_name (i := 6) sc_write_condition.nd rfl (Or.inl rfl)) pgs_nil)) : PG _ _ (gTup K _ _))) (pss_cons (ps_asg (pe_joined2 (PJ.cons pe_str (PJ.cons (pe_fmt (pv 5)) (PJ.cons pe_str PJ.nil)))) (pg_name (i := 7) sc_write_condition.nd rfl (Or.inl rfl))) (pss_one (ps_ret (pe_join2 (pv 7) (pe_lc (own := [("part", 8)]) (g := gName 8) (by rfl) sc_write_condition.nd (pi_tup (pv 6) : PI _ _ _ (iTup K _)) (blkOk_by (own := [("part", 8)]) (N := n_write_condition) (sc := defScope s_write_condition) (by decide +kernel)) (fun _ _ _ _ _ => pg_name (i := 8) sc_write_condition.nd rfl (Or.inl rfl)) (fun _ _ _ _ _ => pts_nil) (fun _ _ _ _ _ => (C8.pe_c ihB hr (by first | decide | omega) (by rfl) (pa_cons (pv 5) (pa_cons (pv 8) pa_nil))))) : PE _ _ (tM1 (rJoin K) _ _)))))))), ?_⟩
  cases c with
  | cmp sg l r =>
    rw [okC] at ok
    have ll := good_len ok.2.1
    have lr := good_len ok.2.2
    have ls := sig_len ok.1
    obtain ⟨a, u, x, rfl, ea, tu, tx⟩ := cd_cmp tv
    walk_at "ss"
    refine o_ixT (tup_of ea) (atI_nat (j := 0) rfl) ?_
    walk_at "ss"
    refine o_eqS rfl ?_
    walk_at "ss"
    refine iteT ?_
    walk_at "ss"
    refine g_tup (tup_of ea) rfl ?_
    walk_at "ss"
    refine ⟨u, l, rfl, tu, ok.2.1, by have := good_dep ok.2.1; omega, ?_⟩
    refine k_fS (lz (by omega)) ?_
    refine k_j (lz (by rw [app_len]; show 0 + _ ≤ _; omega)) ?_
    walk_at "ss"
    refine k_j (lz (by rw [app_len, app_len]; show 0 + _ + 1 ≤ _; omega)) ?_
    walk_at "ss"
    refine k_fS (lz (by omega)) ?_
    refine k_j (lz (by rw [app_len, app_len, app_len]; show 0 + _ + 1 + _ ≤ _; omega)) ?_
    walk_at "ss"
    refine k_j (lz (by rw [app_len, app_len, app_len, app_len]; show 0 + _ + 1 + _ + 1 ≤ _; omega)) ?_
    walk_at "ss"
    refine ⟨x, r, rfl, tx, ok.2.2, by have := good_dep ok.2.2; omega, ?_⟩
    refine k_fS (lz (by omega)) ?_
    refine k_j (lz (by rw [app_len, app_len, app_len, app_len, app_len]; show 0 + _ + 1 + _ + 1 + _ ≤ _; omega)) ?_
    walk_at "ss"
    have e5 : Str.empty ++ textE l ++ (" " : Str) ++ sg ++ (" " : Str) ++ textE r = textC (.cmp sg l r) := by
      rw [textC]
      refine str_ext ?_
      rw [app_tl, app_tl, app_tl, app_tl, app_tl, app_tl, app_tl, app_tl, app_tl]
      rfl
    rw [e5]
    exact q H (Same.refl H)
  | no c =>
    rw [okC] at ok
    rw [wt] at hw
    obtain ⟨n, rfl, hd⟩ := dp_no hd
    obtain ⟨a, u, rfl, ea, tu⟩ := cd_no tv
    walk_at "ss"
    refine o_ixT (tup_of ea) (atI_nat (j := 0) rfl) ?_
    walk_at "ss"
    refine o_eqS rfl ?_
    walk_at "ss"
    refine iteF ?_
    walk_at "ss"
    refine o_ixT (tup_of ea) (atI_nat (j := 0) rfl) ?_
    walk_at "ss"
    refine o_eqS rfl ?_
    walk_at "ss"
    refine iteT ?_
    walk_at "ss"
    refine o_ixT (tup_of ea) (atI_nat (j := 1) rfl) ?_
    walk_at "ss"
    refine ⟨"not", false, u, c, n, rfl, .inl ⟨rfl, rfl⟩, tu, ok, hd, by omega, by omega, fun H1 s1 => ?_⟩
    have hc := text_len ok
    have hwr := wrap_len (needB false c) (textC c)
    refine o_addS (by show 4 + _ ≤ _; exact Nat.le_trans (show 4 + (wrap (needB false c) (textC c)).length ≤ 200000 by omega) (by decide)) ?_
    have e5 : ("not " : Str) ++ wrap (needB false c) (textC c) = textC (.no c) := by
      rw [textC]
      refine str_ext ?_
      rw [app_tl, app_tl, app_tl]
      rfl
    rw [e5]
    exact q H1 s1
  | jn o cs =>
    rw [okC] at ok
    rw [wt] at hw
    obtain ⟨n, rfl, hd⟩ := dp_jn hd
    obtain ⟨a, b, us, rfl, ea, eb, tu⟩ := cd_jn tv
    have hjl := jw_len o
    walk_at "ss"
    refine o_ixT (tup_of ea) (atI_nat (j := 0) rfl) ?_
    walk_at "ss"
    refine o_eqS rfl ?_
    rw [show decide (V.str (jw o) = V.str "cmp") = false by cases o <;> rfl]
    walk_at "ss"
    refine iteF ?_
    walk_at "ss"
    refine o_ixT (tup_of ea) (atI_nat (j := 0) rfl) ?_
    walk_at "ss"
    refine o_eqS rfl ?_
    rw [show decide (V.str (jw o) = V.str "not") = false by cases o <;> rfl]
    walk_at "ss"
    refine iteF ?_
    walk_at "ss"
    refine g_tup (tup_of ea) rfl ?_
    walk_at "ss"
    refine k_j (lz (by decide)) ?_
    walk_at "ss"
    refine k_fS (lz (by omega)) ?_
    refine k_j (lz (by rw [app_len]; show 0 + 1 + _ ≤ _; omega)) ?_
    walk_at "ss"
    refine k_j (lz (by rw [app_len, app_len]; show 0 + 1 + _ + 1 ≤ _; omega)) ?_
    walk_at "ss"
    have e5 : Str.empty ++ (" " : Str) ++ jw o ++ (" " : Str) = (" " : Str) ++ jw o ++ (" " : Str) := by
      refine str_ext ?_
      rw [app_tl, app_tl, app_tl, app_tl, app_tl]
      rfl
    rw [e5]
    refine k_t (tup_of eb) ?_
    have lus : us.length = cs.length := by rw [tu.length, ds_len]
    refine c_tup (xs := us) (fun D i H1 => Same H H1 ∧ H1 D = some (.lst (((textsC o cs).take i).map V.str))) (fun D H1 nD s1 e1 => ⟨s1, e1⟩) (fun D i H1 hi nD p => tup_of (p.1 _ _ eb)) (fun D i x H1 hx nD p => ?_) (fun D H1 nD p => ?_)
    · obtain ⟨s1, e1⟩ := p
      obtain ⟨c, hc, tc⟩ := part_at tu hx
      have hi := (List.getElem?_eq_some_iff.mp hx).1
      have hwg := wts_get hc
      have hlen : cs.length ≤ 100000 := by
        have := texts_len o ok.2
        omega
      walk_at "ss"
      refine ⟨rfl, ?_⟩
      walk_at "ss"
      refine iteT ?_
      walk_at "ss"
      refine ⟨jw o, o, x, c, n, rfl, .inr rfl, tc.tk s1.tk, oks_get ok.2 hc, dps_get hd hc, by omega, by omega, fun H2 s2 => ?_⟩
      refine c_out (s2 _ _ e1) (by rw [List.length_map, List.length_take, texts_count]; exact small1000' (by omega)) fun H3 c3 e3 => ⟨c3.same (s1.trans s2) nD, ?_⟩
      rw [e3, texts_get o hc, List.map_append]
      rfl
    · obtain ⟨s1, e1⟩ := p
      rw [lus, ← texts_count o cs, List.take_length] at e1
      walk_at "ss"
      have hs := texts_len o ok.2
      refine m_join (lst_of e1) (by rw [texts_count, app_len, app_len]; show _ + cs.length * (1 + (jw o).length + 1) ≤ _; have : cs.length * (1 + (jw o).length + 1) ≤ cs.length * 5 := Nat.mul_le_mul_left _ (by omega); omega) ?_
      rw [join_joinS]
      rw [textC] at q
      exact q H1 s1
theorem spWC_no (vs : List V) (H : Hp) (Q : VK) (E : XK) : ¬ spWC 0 vs H Q E := by
  rintro ⟨_, _, _, _, _, _, _, h, _⟩
  omega
theorem spWB_no (vs : List V) (H : Hp) (Q : VK) (E : XK) : ¬ spWB 0 vs H Q E := by
  rintro ⟨_, _, _, _, _, _, _, _, _, _, h, _⟩
  omega
theorem k_write_both (T : Tx w K mg) : ∀ m : Nat, C8.Cal P w K mg base (m + 4) "write_condition" (spWC m) [] ∧ C8.Cal P w K mg base (m + 4) "_write_below" (spWB m) []
  | 0 => ⟨cal_never (ps := ["condition"]) T.d_write_condition (fun _ _ F => F.bindsN fun _ _ _ _ _ _ us hl => match us, hl with | [_], _ => rfl) spWC_no, cal_never (ps := ["word", "part"]) T.d_write_below (fun _ _ F => F.bindsN fun _ _ _ _ _ _ us hl => match us, hl with | [_, _], _ => rfl) spWB_no⟩
  | m + 1 => ⟨k_write_condition' T m (k_write_both T m).2, k_write_below' T m (k_write_both T m).1⟩
theorem k_write_condition (T : Tx w K mg) : C8.Cal P w K mg base 16 "write_condition" (spWC 12) [] := (k_write_both T 12).1
end
end K03
namespace K03
open PySem PySem.Spec PyProof.Rows L2 Wy WM W3 W4 W5 W7 W8 W9 W10 W6

-- REC _law_text 2
section
variable {P : Program} {w : World} {K : PySem.W.Frag} {mg : Str → Option Value} {base : Heap}
def spNeeds : Sp := fun vs H Q _ => ∃ (key : Str) (o : Bool) (v : V) (c : Cd), vs = [.str key, v] ∧ (key = "not" ∧ o = false ∨ key = jw o) ∧ Tp H v c.d ∧ ∀ H', Same H H' → Q (.bl (needB o c)) H'
theorem need_or (c : Cd) : decide (V.str (kw c) = V.str "or") = needB true c := by
  cases c with
  | cmp _ _ _ => rfl
  | no _ => rfl
  | jn o _ => cases o <;> rfl
theorem k_law_needs (T : Tx w K mg) : C8.Cal P w K mg base 1 "_law_needs" spNeeds [] := by
  refine cal_of (N := n_law_needs) T.d_law_needs sc_law_needs (fun _ _ F => F.bindsN fun _ _ _ _ _ _ us hl => match us, hl with | [_, _], _ => rfl) (fun vs H Q E h => ?_) (fun f cdv A outer s H vs Q E hr h => ?_)
  · obtain ⟨key, o, v, c, rfl, _⟩ := h
    rfl
  obtain ⟨key, o, v, c, rfl, hkey, tv, q⟩ := h
  obtain ⟨a, xs, rfl, ea, e0⟩ := cd_first tv
  refine ⟨_, (pss_cons (ps_if (pt_cmpR (op_eq2 hr.units : OpR _ _ (rEq2 K)) (pv 0) pe_str (nomark _)) (pss_one (ps_ret (pe_cmpR (op_eq2 hr.units : OpR _ _ (rEq2 K)) (pe_ix (ix_seq : IxR _ (rIx K)) (pv 1) pe_int (fun _ _ => rfl)) pe_str (nomark _)))) pss_nil) (pss_one (ps_ret (pe_cmpR (op_in2 : OpR _ _ (rIn2 K)) (pe_ix (ix_seq : IxR _ (rIx K)) (pv 1) pe_int (fun _ _ => rfl)) (pe_lst (pa_cons pe_str (pa_cons pe_str pa_nil))) (by rfl))))), ?_⟩
  walk_at "ss"
  refine o_eqS rfl ?_
  walk_at "ss"
  have other : o = false → key ≠ "or" → _ := fun ho hk => ho
  cases o with
  | true =>
    have hk : key = "or" := by
      rcases hkey with ⟨_, h⟩ | h
      · cases h
      · exact h
    subst hk
    refine iteT ?_
    walk_at "ss"
    refine o_ixT (tup_of ea) (atI_nat (j := 0) e0) ?_
    refine o_eqS rfl ?_
    rw [need_or]
    exact q H (Same.refl H)
  | false =>
    have hk : decide (V.str key = V.str "or") = false := by
      rcases hkey with ⟨h, _⟩ | h
      · rw [h]
        rfl
      · rw [h]
        rfl
    rw [hk]
    refine iteF ?_
    walk_at "ss"
    refine o_ixT (tup_of ea) (atI_nat (j := 0) e0) ?_
    walk_at "ss"
    refine n_obj (lz (by simp)) fun p2 H2 n2 s2 e2 => ?_
    refine o_inL (lst_of e2) rfl (by decide +kernel) ?_
    rw [show inV (.str (kw c)) [.str "and", .str "or"] = needB false c from need_in false c]
    exact q H2 s2
def spCT (m : Nat) : Sp := fun vs H Q _ => ∃ (v : V) (c : Cd) (n : Nat), vs = [v] ∧ Tp H v c.d ∧ okC c ∧ dp n c ∧ n < m ∧ wt c ≤ 100000 ∧ ∀ H', Same H H' → Q (.str (textC c)) H'
theorem spCT_no (vs : List V) (H : Hp) (Q : VK) (E : XK) : ¬ spCT 0 vs H Q E := by
  rintro ⟨_, _, _, _, _, _, _, h, _⟩
  omega
theorem k_law_condition_text (T : Tx w K mg) : ∀ m : Nat, C8.Cal P w K mg base (m + 4) "_law_condition_text" (spCT m) []
  | 0 => cal_never (ps := ["condition"]) T.d_law_condition_text (fun _ _ F => F.bindsN fun _ _ _ _ _ _ us hl => match us, hl with | [_], _ => rfl) spCT_no
  | m + 1 => by
    have ih := k_law_condition_text T m
    refine cal_of (N := n_law_condition_text) T.d_law_condition_text sc_law_condition_text (fun _ _ F => F.bindsN fun _ _ _ _ _ _ us hl => match us, hl with | [_], _ => rfl) (fun vs H Q E h => ?_) (fun f cdv A outer s H vs Q E hr h => ?_)
    · obtain ⟨v, c, n, rfl, _⟩ := h
      rfl
    obtain ⟨v, c, n, rfl, tv, ok, hd, hm, hw, q⟩ := h
    have hl := text_len ok
    refine ⟨_, (pss_cons (ps_if (pt_cmpR (op_eq2 hr.units : OpR _ _ (rEq2 K)) (pe_ix (ix_seq : IxR _ (rIx K)) (pv 0) pe_int (fun _ _ => rfl)) pe_str (nomark _)) (pss_one (ps_ret (pe_op op_add3 (pe_op op_add3 (pe_op op_add3 (pe_op op_add3 (C8.pe_c (k_law_text T 2) hr (by first | decide | omega) (by rfl) (pa_cons (pe_ix (ix_seq : IxR _ (rIx K)) (pv 0) pe_int (fun _ _ => rfl)) pa_nil)) pe_str) (pe_ix (ix_seq : IxR _ (rIx K)) (pv 0) pe_int (fun _ _ => rfl))) pe_str) (C8.pe_c (k_law_text T 2) hr (by first | decide | omega) (by rfl) (pa_cons (pe_ix (ix_seq : IxR _ (rIx K)) (pv 0) pe_int (fun _ _ => rfl)) pa_nil))))) pss_nil) (pss_cons (ps_asg (pe_ix (ix_seq : IxR _ (rIx K)) (pv 0) pe_int (fun _ _ => rfl)) (pg_name (i := 1) sc_law_condition_text.nd rfl (Or.inl rfl))) (C8.pss_cut (ps_if (pt_cmpR (op_eq2 hr.units : OpR _ _ (rEq2 K)) (pe_ix (ix_seq : IxR _ (rIx K)) (pv 0) pe_int (fun _ _ => rfl)) pe_str (nomark _)) (pss_one (ps_asg (pe_lst (pa_cons (pe_ix (ix_seq : IxR _ (rIx K)) (pv 0) pe_int (fun _ _ => rfl)) pa_nil)) (pg_name (i := 1) sc_law_condition_text.nd rfl (Or.inl rfl)))) pss_nil) (pss_cons (ps_asg (pe_lst pa_nil) (pg_name (i := 2) sc_law_condition_text.nd rfl (Or.inl rfl))) (pss_cons (ps_for PassesOwn.never rfl (pi_seq (pv 1) : PI _ _ _ (iSeq K _)) (pg_name (i := 3) sc_law_condition_text.nd rfl (Or.inl rfl)) (pss_cons (ps_asg (C8.pe_c ih hr (by first | decide | omega) (by rfl) (pa_cons (pv 3) pa_nil)) (pg_name (i := 4) sc_law_condition_text.nd rfl (Or.inl rfl))) (C8.pss_cut (ps_if (pt_tr (C8.pe_c (k_law_needs T) hr (by first | decide | omega) (by rfl) (pa_cons (pe_ix (ix_seq : IxR _ (rIx K)) (pv 0) pe_int (fun _ _ => rfl)) (pa_cons (pv 3) pa_nil))) : PT _ _ (tTr K _)) (pss_one (ps_asg (pe_op op_add3 (pe_op op_add3 pe_str (pv 4)) pe_str) (pg_name (i := 4) sc_law_condition_text.nd rfl (Or.inl rfl)))) pss_nil) (pss_one (ps_expr (pe_bm PySem.F.plainAttrs_list PySem.F.slot_list_append PySem.F.type_list_append mt_append (pv 2) (pa_cons (pv 4) pa_nil) : PE _ _ (tBM K _ _ _ _))))))) (pss_cons (ps_if (pt_cmpR (op_eq2 hr.units : OpR _ _ (rEq2 K)) (pe_ix (ix_seq : IxR _ (rIx K)) (pv 0) pe_int (fun _ _ => rfl)) pe_str (nomark _)) (pss_one (ps_ret (pe_op op_add3 pe_str (pe_ix (ix_seq : IxR _ (rIx K)) (pv 2) pe_int (fun _ _ => rfl))))) pss_nil) (pss_one (ps_ret (pe_join2 (pe_op op_add3 (pe_op op_add3 pe_str (pe_ix (ix_seq : IxR _ (rIx K)) (pv 0) pe_int (fun _ _ => rfl))) pe_str) (pv 2) : PE _ _ (tM1 (rJoin K) _ _)))))))))), ?_⟩
    cases c with
    | cmp sg l r =>
      rw [okC] at ok
      have ll := good_len ok.2.1
      have lr := good_len ok.2.2
      have ls := sig_len ok.1
      obtain ⟨a, u, x, rfl, ea, tu, tx⟩ := cd_cmp tv
      walk_at "ss"
      refine o_ixT (tup_of ea) (atI_nat (j := 0) rfl) ?_
      walk_at "ss"
      refine o_eqS rfl ?_
      walk_at "ss"
      refine iteT ?_
      walk_at "ss"
      refine o_ixT (tup_of ea) (atI_nat (j := 2) rfl) ?_
      walk_at "ss"
      refine ⟨u, l, rfl, tu, ok.2.1, by have := good_dep ok.2.1; omega, fun H1 s1 => ?_⟩
      walk_at "ss"
      refine o_addS (lz (by show _ + 1 ≤ _; omega)) ?_
      walk_at "ss"
      refine o_ixT (tup_of (s1 _ _ ea)) (atI_nat (j := 1) rfl) ?_
      refine o_addS (lz (by rw [app_len]; show _ + 1 + _ ≤ _; omega)) ?_
      walk_at "ss"
      refine o_addS (lz (by rw [app_len, app_len]; show _ + 1 + _ + 1 ≤ _; omega)) ?_
      walk_at "ss"
      refine o_ixT (tup_of (s1 _ _ ea)) (atI_nat (j := 3) rfl) ?_
      walk_at "ss"
      refine ⟨x, r, rfl, tx.tk s1.tk, ok.2.2, by have := good_dep ok.2.2; omega, fun H2 s2 => ?_⟩
      refine o_addS (lz (by rw [app_len, app_len, app_len]; show _ + 1 + _ + 1 + _ ≤ _; omega)) ?_
      rw [textC] at q
      exact q H2 (s1.trans s2)
    | no c =>
      rw [okC] at ok
      rw [wt] at hw
      obtain ⟨n, rfl, hd⟩ := dp_no hd
      obtain ⟨a, u, rfl, ea, tu⟩ := cd_no tv
      walk_at "ss"
      refine o_ixT (tup_of ea) (atI_nat (j := 0) rfl) ?_
      walk_at "ss"
      refine o_eqS rfl ?_
      walk_at "ss"
      refine iteF ?_
      walk_at "ss"
      refine o_ixT (tup_of ea) (atI_nat (j := 1) rfl) ?_
      walk_at "ss"
      refine s_cut (fun σ H' => ∃ pp, σ = [some (.ref a), some (.ref pp), none, none, none] ∧ Same H H' ∧ H' pp = some (.lst [u])) ?_ (fun σ H1 hp => ?_)
      · walk_at "ss"
        refine o_ixT (tup_of ea) (atI_nat (j := 0) rfl) ?_
        walk_at "ss"
        refine o_eqS rfl ?_
        walk_at "ss"
        refine iteT ?_
        walk_at "ss"
        refine o_ixT (tup_of ea) (atI_nat (j := 1) rfl) ?_
        walk_at "ss"
        refine n_obj (lz (by simp)) fun p1 H1 n1 s1 e1 => ?_
        exact ⟨p1, rfl, s1, e1⟩
      · obtain ⟨pp, rfl, s1, ep⟩ := hp
        have oks : oksC [c] := by
          rw [oksC, oksC]
          exact ⟨ok, True.intro⟩
        have hd : dps n [c] := by
          rw [dps, dps]
          exact ⟨hd, True.intro⟩
        have hw : wts [c] ≤ 200000 := by
          rw [wts, wts]
          omega
        have hlen : ([c] : List Cd).length ≤ 100000 := by simp
        obtain ⟨us, hus⟩ : ∃ us, us = [u] := ⟨_, rfl⟩
        rw [← hus] at ep
        have tu : TpAll H us (Cd.ds [c]) := by
          rw [hus]
          exact .cons tu .nil
        walk_at "ss"
        refine n_obj (Nat.zero_le _) fun D H2 nD s2 e2 => ?_
        walk_at "ss"
        refine w_sl ?_
        walk_at "ss"
        refine k_l (lst_of (s2 _ _ ep)) ?_
        refine f_list (xs := us) (fun i σ H' => Same H1 H' ∧ ∃ x3 x4, σ = [some (.ref a), some (.ref pp), some (.ref D), x3, x4] ∧ H' D = some (.lst (((textsC false [c]).take i).map V.str))) ⟨s2, _, _, rfl, e2⟩
          (fun i σ H' hi p => lst_of (p.1 _ _ ep)) (fun i x σ H3 hx p => ?_) (fun σ H3 p => ?_)
        · obtain ⟨s3, x3, x4, rfl, e3⟩ := p
          obtain ⟨c', hc, tc⟩ := part_at tu hx
          have hi := (List.getElem?_eq_some_iff.mp hx).1
          have lus : us.length = ([c] : List Cd).length := by rw [tu.length, ds_len]
          have s03 := s1.trans s3
          have okc := oks_get oks hc
          have tl0 := text_len okc
          have wl := wts_get hc
          have n0 : H D = none := s1.free nD
          walk_at "ss"
          refine ⟨x, c', n, rfl, tc.tk s03.tk, okc, dps_get hd hc, by omega, by rw [wts, wts] at hw; rw [wts, wts] at wl; omega, fun H4 s4 => ?_⟩
          have s04 := s03.trans s4
          walk_at "ss"
          refine s_cut (fun σ H' => σ = [some (.ref a), some (.ref pp), some (.ref D), some x, some (.str (wrap (needB false c') (textC c')))] ∧ Same H4 H') ?_ (fun σ H5 hp => ?_)
          · walk_at "ss"
            refine o_ixT (tup_of (s04 _ _ ea)) (atI_nat (j := 0) rfl) ?_
            walk_at "ss"
            refine ⟨_, false, x, c', rfl, .inl ⟨rfl, rfl⟩, tc.tk s04.tk, fun H5 s5 => ?_⟩
            cases hn : needB false c' with
            | true =>
              walk_at "ss"
              refine iteT ?_
              walk_at "ss"
              refine o_addS (by show 1 + _ ≤ _; exact Nat.le_trans (show 1 + (textC c').length ≤ 200000 by omega) (by decide)) ?_
              walk_at "ss"
              refine o_addS (by rw [app_len]; show 1 + _ + 1 ≤ _; exact Nat.le_trans (show 1 + (textC c').length + 1 ≤ 200000 by omega) (by decide)) ?_
              exact ⟨rfl, s5⟩
            | false =>
              walk_at "ss"
              refine iteF ?_
              walk_at "ss"
              exact ⟨rfl, s5⟩
          · obtain ⟨rfl, s5⟩ := hp
            have e5 := s5 _ _ (s4 _ _ e3)
            walk_at "ss"
            refine m_ty (lst_of e5) ?_
            walk_at "ss"
            refine m_app e5 (by rw [List.length_map, List.length_take, texts_count]; exact small1000' (Nat.le_trans (Nat.min_le_right _ _) hlen)) fun H6 c6 e6 => ?_
            refine ⟨c6.same ((s3.trans s4).trans s5) (by exact nD), _, _, rfl, ?_⟩
            rw [e6, texts_get false hc, List.map_append]
            rfl
        · obtain ⟨s3, x3, x4, rfl, e3⟩ := p
          have s03 := s1.trans s3
          have e3 : H3 D = some (.lst [.str (wrap (needB false c) (textC c))]) := by
            rw [e3, hus, textsC, textsC]
            rfl
          walk_at "ss"
          refine o_ixT (tup_of (s03 _ _ ea)) (atI_nat (j := 0) rfl) ?_
          walk_at "ss"
          refine o_eqS rfl ?_
          walk_at "ss"
          refine iteT ?_
          walk_at "ss"
          refine o_ixL (lst_of e3) (atI_nat (j := 0) rfl) ?_
          have hc := text_len ok
          have hwr := wrap_len (needB false c) (textC c)
          refine o_addS (by show 4 + _ ≤ _; exact Nat.le_trans (show 4 + (wrap (needB false c) (textC c)).length ≤ 200000 by omega) (by decide)) ?_
          have e5 : ("not " : Str) ++ wrap (needB false c) (textC c) = textC (.no c) := by
            rw [textC]
            refine str_ext ?_
            rw [app_tl, app_tl, app_tl]
            rfl
          rw [e5]
          exact q H3 s03
    | jn o cs =>
      rw [okC] at ok
      rw [wt] at hw
      have oks := ok.2
      obtain ⟨n, rfl, hd⟩ := dp_jn hd
      obtain ⟨a, b, us, rfl, ea, eb, tu⟩ := cd_jn tv
      have hjl := jw_len o
      have hts := texts_len o ok.2
      have hlen : (cs : List Cd).length ≤ 100000 := by omega
      walk_at "ss"
      refine o_ixT (tup_of ea) (atI_nat (j := 0) rfl) ?_
      walk_at "ss"
      refine o_eqS rfl ?_
      rw [show decide (V.str (jw o) = V.str "cmp") = false by cases o <;> rfl]
      walk_at "ss"
      refine iteF ?_
      walk_at "ss"
      refine o_ixT (tup_of ea) (atI_nat (j := 1) rfl) ?_
      walk_at "ss"
      refine s_cut (fun σ H' => ∃ pp, σ = [some (.ref a), some (.ref pp), none, none, none] ∧ Same H H' ∧ H' pp = some (.tup us)) ?_ (fun σ H1 hp => ?_)
      · walk_at "ss"
        refine o_ixT (tup_of ea) (atI_nat (j := 0) rfl) ?_
        walk_at "ss"
        refine o_eqS rfl ?_
        rw [show decide (V.str (jw o) = V.str "not") = false by cases o <;> rfl]
        walk_at "ss"
        refine iteF ?_
        walk_at "ss"
        exact ⟨b, rfl, Same.refl H, eb⟩
      · obtain ⟨pp, rfl, s1, ep⟩ := hp
        walk_at "ss"
        refine n_obj (Nat.zero_le _) fun D H2 nD s2 e2 => ?_
        walk_at "ss"
        refine w_st ?_
        walk_at "ss"
        refine k_t (tup_of (s2 _ _ ep)) ?_
        refine f_tup (xs := us) (fun i σ H' => Same H1 H' ∧ ∃ x3 x4, σ = [some (.ref a), some (.ref pp), some (.ref D), x3, x4] ∧ H' D = some (.lst (((textsC o cs).take i).map V.str))) ⟨s2, _, _, rfl, e2⟩
          (fun i σ H' hi p => tup_of (p.1 _ _ ep)) (fun i x σ H3 hx p => ?_) (fun σ H3 p => ?_)
        · obtain ⟨s3, x3, x4, rfl, e3⟩ := p
          obtain ⟨c', hc, tc⟩ := part_at tu hx
          have hi := (List.getElem?_eq_some_iff.mp hx).1
          have lus : us.length = (cs : List Cd).length := by rw [tu.length, ds_len]
          have s03 := s1.trans s3
          have okc := oks_get oks hc
          have tl0 := text_len okc
          have wl := wts_get hc
          have n0 : H D = none := s1.free nD
          walk_at "ss"
          refine ⟨x, c', n, rfl, tc.tk s03.tk, okc, dps_get hd hc, by omega, by omega, fun H4 s4 => ?_⟩
          have s04 := s03.trans s4
          walk_at "ss"
          refine s_cut (fun σ H' => σ = [some (.ref a), some (.ref pp), some (.ref D), some x, some (.str (wrap (needB o c') (textC c')))] ∧ Same H4 H') ?_ (fun σ H5 hp => ?_)
          · walk_at "ss"
            refine o_ixT (tup_of (s04 _ _ ea)) (atI_nat (j := 0) rfl) ?_
            walk_at "ss"
            refine ⟨_, o, x, c', rfl, .inr rfl, tc.tk s04.tk, fun H5 s5 => ?_⟩
            cases hn : needB o c' with
            | true =>
              walk_at "ss"
              refine iteT ?_
              walk_at "ss"
              refine o_addS (by show 1 + _ ≤ _; exact Nat.le_trans (show 1 + (textC c').length ≤ 200000 by omega) (by decide)) ?_
              walk_at "ss"
              refine o_addS (by rw [app_len]; show 1 + _ + 1 ≤ _; exact Nat.le_trans (show 1 + (textC c').length + 1 ≤ 200000 by omega) (by decide)) ?_
              exact ⟨rfl, s5⟩
            | false =>
              walk_at "ss"
              refine iteF ?_
              walk_at "ss"
              exact ⟨rfl, s5⟩
          · obtain ⟨rfl, s5⟩ := hp
            have e5 := s5 _ _ (s4 _ _ e3)
            walk_at "ss"
            refine m_ty (lst_of e5) ?_
            walk_at "ss"
            refine m_app e5 (by rw [List.length_map, List.length_take, texts_count]; exact small1000' (Nat.le_trans (Nat.min_le_right _ _) hlen)) fun H6 c6 e6 => ?_
            refine ⟨c6.same ((s3.trans s4).trans s5) (by exact nD), _, _, rfl, ?_⟩
            rw [e6, texts_get o hc, List.map_append]
            rfl
        · obtain ⟨s3, x3, x4, rfl, e3⟩ := p
          have s03 := s1.trans s3
          have lus : us.length = (cs : List Cd).length := by rw [tu.length, ds_len]
          rw [lus, ← texts_count o cs, List.take_length] at e3
          walk_at "ss"
          refine o_ixT (tup_of (s03 _ _ ea)) (atI_nat (j := 0) rfl) ?_
          walk_at "ss"
          refine o_eqS rfl ?_
          rw [show decide (V.str (jw o) = V.str "not") = false by cases o <;> rfl]
          walk_at "ss"
          refine iteF ?_
          walk_at "ss"
          refine o_ixT (tup_of (s03 _ _ ea)) (atI_nat (j := 0) rfl) ?_
          refine o_addS (lz (by show 1 + _ ≤ _; omega)) ?_
          walk_at "ss"
          refine o_addS (lz (by rw [app_len]; show 1 + _ + 1 ≤ _; omega)) ?_
          walk_at "ss"
          refine m_join (lst_of e3) (by rw [texts_count, app_len, app_len]; show _ + cs.length * (1 + (jw o).length + 1) ≤ _; have : cs.length * (1 + (jw o).length + 1) ≤ cs.length * 5 := Nat.mul_le_mul_left _ (by omega); omega) ?_
          rw [join_joinS]
          rw [textC] at q
          exact q H3 s03
end
end K03
namespace K03
open PySem PySem.Spec PyProof.Rows L2 Wy WM W3 W4 W5 W7 W8 W9 W10 W6

section
variable {P : Program} {w : World} {K : PySem.W.Frag} {mg : Str → Option Value} {base : Heap}
def spSimple : Sp := fun vs H Q _ => ∃ (h d : Addr), vs = [.ref h] ∧ HandAt H h d ∧ ∀ v e H', Keep h H H' → HandAt H' h d → Tp H' v (e : Ex).d → Good e → Q v H'
theorem str_item (xs : List Str) {j : Nat} (hj : j < xs.length) : ∃ y, (xs.map V.str)[j]? = some (.str y) ∧ y ∈ xs := ⟨xs[j], by rw [List.getElem?_map, List.getElem?_eq_getElem hj]; rfl, List.getElem_mem hj⟩
theorem names6 : ∀ x ∈ (["a", "b", "c", "i", "range", "turns"] : List Str), nameW x = true := by decide +kernel
theorem names2 : ∀ x ∈ (["i", "k"] : List Str), nameW x = true := by decide +kernel
theorem namesL : ∀ x ∈ (["xs", "y"] : List Str), nameW x = true := by decide +kernel
theorem k_law_simple (T : Tx w K mg) : C8.Cal P w K mg base 2 "_law_simple" spSimple [] := by
  refine cal_of (N := n_law_simple) T.d_law_simple sc_law_simple (fun _ _ F => F.bindsN fun _ _ _ _ _ _ us hl => match us, hl with | [_], _ => rfl) (fun vs H Q E h => ?_) (fun f cdv A outer s H vs Q E hr h => ?_)
  · obtain ⟨h, d, rfl, _⟩ := h
    rfl
  obtain ⟨h, d, rfl, hh, q⟩ := h
  refine ⟨_, (pss_cons (ps_asg (C8.pe_c (k_law_take T) hr (by first | decide | omega) (by rfl) (pa_cons (pv 0) (pa_cons pe_int pa_nil))) (pg_name (i := 1) sc_law_simple.nd rfl (Or.inl rfl))) (pss_cons (ps_if (pt_cmpR op_lt (pv 1) pe_int (nomark _)) (pss_one (ps_ret (pe_tup (pa_cons pe_str (pa_cons (pe_op op_sub (C8.pe_c (k_law_take T) hr (by first | decide | omega) (by rfl) (pa_cons (pv 0) (pa_cons pe_int pa_nil))) pe_int) pa_nil))))) pss_nil) (pss_cons (ps_if (pt_cmpR op_lt (pv 1) pe_int (nomark _)) (pss_one (ps_ret (pe_tup (pa_cons pe_str (pa_cons (pe_ix (ix_seq : IxR _ (rIx K)) (pe_lst (pa_cons pe_str (pa_cons pe_str (pa_cons pe_str (pa_cons pe_str (pa_cons pe_str (pa_cons pe_str pa_nil))))))) (C8.pe_c (k_law_take T) hr (by first | decide | omega) (by rfl) (pa_cons (pv 0) (pa_cons pe_int pa_nil))) (fun _ _ => rfl)) (pa_cons (pe_op op_sub (C8.pe_c (k_law_take T) hr (by first | decide | omega) (by rfl) (pa_cons (pv 0) (pa_cons pe_int pa_nil))) pe_int) pa_nil)))))) pss_nil) (pss_cons (ps_asg (pe_tup (pa_cons pe_str (pa_cons (pe_op op_sub (C8.pe_c (k_law_take T) hr (by first | decide | omega) (by rfl) (pa_cons (pv 0) (pa_cons pe_int pa_nil))) pe_int) pa_nil))) (pg_name (i := 2) sc_law_simple.nd rfl (Or.inl rfl))) (C8.pss_cut (ps_if (pt_cmpR (op_eq2 hr.units : OpR _ _ (rEq2 K)) (pv 1) pe_int (nomark _)) (pss_one (ps_asg (pe_tup (pa_cons pe_str (pa_cons (pe_ix (ix_seq : IxR _ (rIx K)) (pe_lst (pa_cons pe_str (pa_cons pe_str pa_nil))) (C8.pe_c (k_law_take T) hr (by first | decide | omega) (by rfl) (pa_cons (pv 0) (pa_cons pe_int pa_nil))) (fun _ _ => rfl)) (pa_cons (pe_op op_sub (C8.pe_c (k_law_take T) hr (by first | decide | omega) (by rfl) (pa_cons (pv 0) (pa_cons pe_int pa_nil))) pe_int) pa_nil)))) (pg_name (i := 2) sc_law_simple.nd rfl (Or.inl rfl)))) pss_nil) (pss_one (ps_ret (pe_tup (pa_cons pe_str (pa_cons (pe_ix (ix_seq : IxR _ (rIx K)) (pe_lst (pa_cons pe_str (pa_cons pe_str pa_nil))) (C8.pe_c (k_law_take T) hr (by first | decide | omega) (by rfl) (pa_cons (pv 0) (pa_cons pe_int pa_nil))) (fun _ _ => rfl)) (pa_cons (pv 2) (pa_cons (pe_op op_sub (C8.pe_c (k_law_take T) hr (by first | decide | omega) (by rfl) (pa_cons (pv 0) (pa_cons pe_int pa_nil))) pe_int) pa_nil)))))))))))), ?_⟩
  walk_at "ss"
  refine ⟨h, d, _, rfl, hh, by omega, fun r H1 r0 r1 c1 hh1 => ?_⟩
  walk_at "ss"
  refine ite2 (fun e1 => ?_) (fun e1 => ?_)
  · walk_at "ss"
    refine ⟨h, d, _, rfl, hh1, by omega, fun r2 H2 r3 r4 c2 hh2 => ?_⟩
    walk_at "ss"
    refine n_obj (lz (by simp)) fun p3 H3 n3 s3 e3 => ?_
    exact q _ (.num (r2 - 3)) H3 ((c1.keep.trans c2.keep).trans s3.keep) (hh2.same s3) (.tup e3 (.cons (.str _) (.cons (.int _) .nil))) (by show (r2 - 3).natAbs < 10 ^ 10; omega)
  walk_at "ss"
  refine ite2 (fun e2 => ?_) (fun e2 => ?_)
  · walk_at "ss"
    refine n_obj (lz (by simp)) fun p2 H2 n2 s2 e2 => ?_
    have nn2 := hh1.new n2
    walk_at "ss"
    refine ⟨h, d, _, rfl, hh1.same s2, by omega, fun r3 H3 r4 r5 c3 hh3 => ?_⟩
    obtain ⟨j, hj⟩ : ∃ j : Nat, r3 = (j : Int) := ⟨r3.toNat, by omega⟩
    subst hj
    obtain ⟨x, gx, hx⟩ := str_item ["a", "b", "c", "i", "range", "turns"] (j := j) (by show j < 6; omega)
    walk_at "ss"
    refine o_ixL (lst_of (c3.at e2 nn2.1.symm)) (atI_nat gx) ?_
    walk_at "ss"
    refine ⟨h, d, _, rfl, hh3, by omega, fun r6 H6 r7 r8 c6 hh6 => ?_⟩
    walk_at "ss"
    refine n_obj (lz (by simp)) fun p7 H7 n7 s7 e7 => ?_
    exact q _ (.var x (r6 - 2)) H7 ((((c1.keep.trans s2.keep).trans c3.keep).trans c6.keep).trans s7.keep) (hh6.same s7) (.tup e7 (.cons (.str _) (.cons (.str _) (.cons (.int _) .nil)))) ⟨names6 x hx, by omega⟩
  walk_at "ss"
  refine ⟨h, d, _, rfl, hh1, by omega, fun r2 H2 r3 r4 c2 hh2 => ?_⟩
  walk_at "ss"
  refine n_obj (lz (by simp)) fun p3 H3 n3 s3 e3 => ?_
  have k3 : Keep h H H3 := (c1.keep.trans c2.keep).trans s3.keep
  have hh3 := hh2.same s3
  walk_at "ss"
  refine s_cut (fun σ H' => ∃ v i, σ = [some (.ref h), some (.int r), some v] ∧ Keep h H H' ∧ HandAt H' h d ∧ Tp H' v (i : Ex).d ∧ Plain i) ?_ (fun σ H4 hp => ?_)
  · walk_at "ss"
    refine o_eqS rfl ?_
    walk_at "ss"
    refine ite2 (fun e5 => ?_) (fun e5 => ?_)
    · walk_at "ss"
      refine n_obj (lz (by simp)) fun p4 H4 n4 s4 e4 => ?_
      have nn4 := hh3.new n4
      walk_at "ss"
      refine ⟨h, d, _, rfl, hh3.same s4, by omega, fun r5 H5 r6 r7 c5 hh5 => ?_⟩
      obtain ⟨j, hj⟩ : ∃ j : Nat, r5 = (j : Int) := ⟨r5.toNat, by omega⟩
      subst hj
      obtain ⟨x, gx, hx⟩ := str_item ["i", "k"] (j := j) (by show j < 2; omega)
      walk_at "ss"
      refine o_ixL (lst_of (c5.at e4 nn4.1.symm)) (atI_nat gx) ?_
      walk_at "ss"
      refine ⟨h, d, _, rfl, hh5, by omega, fun r8 H8 r9 r10 c8 hh8 => ?_⟩
      walk_at "ss"
      refine n_obj (lz (by simp)) fun p9 H9 n9 s9 e9 => ?_
      exact ⟨_, .var x (r8 - 1), rfl, (((k3.trans s4.keep).trans c5.keep).trans c8.keep).trans s9.keep, hh8.same s9, .tup e9 (.cons (.str _) (.cons (.str _) (.cons (.int _) .nil))), names2 x hx, by omega⟩
    · walk_at "ss"
      exact ⟨_, .num (r2 - 1), rfl, k3, hh3, .tup e3 (.cons (.str _) (.cons (.int _) .nil)), by show (r2 - 1).natAbs < 10 ^ 10; omega⟩
  · obtain ⟨v, i, rfl, k4, hh4, ti, hp⟩ := hp
    walk_at "ss"
    refine n_obj (lz (by simp)) fun p5 H5 n5 s5 e5 => ?_
    have nn5 := hh4.new n5
    walk_at "ss"
    refine ⟨h, d, _, rfl, hh4.same s5, by omega, fun r6 H6 r7 r8 c6 hh6 => ?_⟩
    obtain ⟨j, hj⟩ : ∃ j : Nat, r6 = (j : Int) := ⟨r6.toNat, by omega⟩
    subst hj
    obtain ⟨x, gx, hx⟩ := str_item ["xs", "y"] (j := j) (by show j < 2; omega)
    walk_at "ss"
    refine o_ixL (lst_of (c6.at e5 nn5.1.symm)) (atI_nat gx) ?_
    walk_at "ss"
    refine ⟨h, d, _, rfl, hh6, by omega, fun r9 H9 r10 r11 c9 hh9 => ?_⟩
    walk_at "ss"
    refine n_obj (lz (by simp)) fun p10 H10 n10 s10 e10 => ?_
    have t10 := (((ti.tk s5.tk).tk ((hh4.same s5).chg_tk c6)).tk (hh6.chg_tk c9)).tk s10.tk
    exact q _ (.item x i (r9 - 1)) H10 ((((k4.trans s5.keep).trans c6.keep).trans c9.keep).trans s10.keep) (hh9.same s10) (.tup e10 (.cons (.str _) (.cons (.str _) (.cons t10 (.cons (.int _) .nil))))) ⟨namesL x hx, hp, by omega⟩
def spMany : Sp := fun vs H Q _ => ∃ (h d : Addr), vs = [.ref h] ∧ HandAt H h d ∧ ∀ (n : Nat) H', n ≤ 9 → Keep h H H' → HandAt H' h d → Q (.int (n : Int)) H'
end
end K03
namespace K03
open PySem PySem.Spec PyProof.Rows L2 Wy WM W3 W4 W5 W7 W8 W9 W10 W6

section
variable {P : Program} {w : World} {K : PySem.W.Frag} {mg : Str → Option Value} {base : Heap}
def spTree (m : Nat) : Sp := fun vs H Q _ => ∃ (h d : Addr) (n z : Nat), vs = [.ref h, .int (n : Int), .int (z : Int)] ∧ HandAt H h d ∧ n < m ∧ (1 ≤ z ∧ z ≤ 8) ∧ ∀ v H' (c : Cd), Keep h H H' → HandAt H' h d → Tp H' v c.d → okC c → dp n c → wt c ≤ z * (140 + 20 * n) → Q v H'
theorem spTree_no (vs : List V) (H : Hp) (Q : VK) (E : XK) : ¬ spTree 0 vs H Q E := by
  rintro ⟨_, _, _, _, _, _, h, _⟩
  omega
theorem wt_step {r a n : Nat} (h : 1 ≤ r) (g : a ≤ r * (140 + 20 * n)) : a + 7 ≤ r * (147 + 20 * n) := by
  have e : r * (147 + 20 * n) = r * (140 + 20 * n) + r * 7 := by rw [← Nat.mul_add]; congr 1; omega
  omega
theorem wts_snoc {c : Cd} : ∀ {cs : List Cd}, wts (cs ++ [c]) = wts cs + (wt c + 7)
  | [] => by simp only [List.nil_append, wts]; omega
  | a :: cs => by rw [List.cons_append, wts, wts, wts_snoc]; omega
theorem oks_snoc {c : Cd} : ∀ {cs : List Cd}, oksC cs → okC c → oksC (cs ++ [c])
  | [], _, h => by rw [List.nil_append, oksC, oksC]; exact ⟨h, True.intro⟩
  | a :: cs, g, h => by rw [oksC] at g; rw [List.cons_append, oksC]; exact ⟨g.1, oks_snoc g.2 h⟩
theorem dps_snoc {n : Nat} {c : Cd} : ∀ {cs : List Cd}, dps n cs → dp n c → dps n (cs ++ [c])
  | [], _, h => by rw [List.nil_append, dps, dps]; exact ⟨h, True.intro⟩
  | a :: cs, g, h => by rw [dps] at g; rw [List.cons_append, dps]; exact ⟨g.1, dps_snoc g.2 h⟩
theorem split_ok {z many fi : Nat} (h2 : 2 ≤ many) (hz : many ≤ z) (h8 : z ≤ 8) (hf : fi = z / many ∨ fi = z - many + 1) :
    1 ≤ fi ∧ fi ≤ 8 ∧ 1 ≤ z / many ∧ z / many ≤ 8 ∧ fi + (many - 1) * (if fi > z / many then 1 else z / many) ≤ z := by
  have : many = 2 ∨ many = 3 ∨ many = 4 ∨ many = 5 ∨ many = 6 ∨ many = 7 ∨ many = 8 := by omega
  rcases this with rfl | rfl | rfl | rfl | rfl | rfl | rfl <;> (refine ⟨by omega, by omega, by omega, by omega, ?_⟩; split <;> omega)
theorem k_law_tree (T : Tx w K mg) : ∀ m : Nat, C8.Cal P w K mg base (m + 4) "_law_tree" (spTree m) []
  | 0 => cal_never (ps := ["hand", "depth", "purse"]) T.d_law_tree (fun _ _ F => F.bindsN fun _ _ _ _ _ _ us hl => match us, hl with | [_, _, _], _ => rfl) spTree_no
  | m + 1 => by
    have ih := k_law_tree T m
    refine cal_of (N := n_law_tree) T.d_law_tree sc_law_tree (fun _ _ F => F.bindsN fun _ _ _ _ _ _ us hl => match us, hl with | [_, _, _], _ => rfl) (fun vs H Q E h => ?_) (fun f cdv A outer s H vs Q E hr h => ?_)
    · obtain ⟨h, d, n, z, rfl, _⟩ := h
      rfl
    · obtain ⟨h, d, n, z, rfl, hh, hn, hz, q⟩ := h
      refine ⟨_, (pss_cons (ps_asg (C8.pe_c (k_law_take T) hr (by first | decide | omega) (by rfl) (pa_cons (pv 0) (pa_cons pe_int pa_nil))) (pg_name (i := 3) sc_law_tree.nd rfl (Or.inl rfl))) (pss_cons (ps_if (PW.pt (pw_or (pt_cmpR (op_eq2 hr.units : OpR _ _ (rEq2 K)) (pv 1) pe_int (nomark _)) (pw_or (pt_cmpR op_lt (pv 3) pe_int (nomark _)) (pw_or1 (PW.pt (pw_and (pt_cmpR op_gt (pv 3) pe_int (nomark _)) (pw_and1 (pt_cmpR op_lt (pv 2) pe_int (nomark _))))))))) (pss_cons (ps_asg (pe_ix (ix_seq : IxR _ (rIx K)) (pe_lst (pa_cons pe_str (pa_cons pe_str (pa_cons pe_str (pa_cons pe_str (pa_cons pe_str (pa_cons pe_str pa_nil))))))) (C8.pe_c (k_law_take T) hr (by first | decide | omega) (by rfl) (pa_cons (pv 0) (pa_cons pe_int pa_nil))) (fun _ _ => rfl)) (pg_name (i := 4) sc_law_tree.nd rfl (Or.inl rfl))) (pss_one (ps_ret (pe_tup (pa_cons pe_str (pa_cons (pv 4) (pa_cons (C8.pe_c (k_law_simple T) hr (by first | decide | omega) (by rfl) (pa_cons (pv 0) pa_nil)) (pa_cons (C8.pe_c (k_law_simple T) hr (by first | decide | omega) (by rfl) (pa_cons (pv 0) pa_nil)) pa_nil)))))))) pss_nil) (pss_cons (ps_if (pt_cmpR (op_eq2 hr.units : OpR _ _ (rEq2 K)) (pv 3) pe_int (nomark _)) (pss_one (ps_ret (pe_tup (pa_cons pe_str (pa_cons (C8.pe_c ih hr (by first | decide | omega) (by rfl) (pa_cons (pv 0) (pa_cons (pe_op op_sub (pv 1) pe_int) (pa_cons (pv 2) pa_nil)))) pa_nil))))) pss_nil) (pss_cons (ps_asg (pe_op op_add3 pe_int (pe_op op_fdiv (C8.pe_c (k_law_take T) hr (by first | decide | omega) (by rfl) (pa_cons (pv 0) (pa_cons (pe_op op_sub (pe_op op_mul2 pe_int (pv 2)) pe_int) pa_nil))) pe_int)) (pg_name (i := 5) sc_law_tree.nd rfl (Or.inl rfl))) (C8.pss_cut (ps_if (pt_cmpR (op_eq2 hr.units : OpR _ _ (rEq2 K)) (C8.pe_c (k_law_take T) hr (by first | decide | omega) (by rfl) (pa_cons (pv 0) (pa_cons pe_int pa_nil))) pe_int (nomark _)) (pss_one (ps_asg pe_int (pg_name (i := 5) sc_law_tree.nd rfl (Or.inl rfl)))) pss_nil) (pss_cons (ps_asg (pe_ix (ix_seq : IxR _ (rIx K)) (pe_lst (pa_cons (pe_op op_fdiv (pv 2) (pv 5)) (pa_cons (pe_op op_add3 (pe_op op_sub (pv 2) (pv 5)) pe_int) pa_nil))) (C8.pe_c (k_law_take T) hr (by first | decide | omega) (by rfl) (pa_cons (pv 0) (pa_cons pe_int pa_nil))) (fun _ _ => rfl)) (pg_name (i := 6) sc_law_tree.nd rfl (Or.inl rfl))) (pss_cons (ps_asg (pe_lst (pa_cons (C8.pe_c ih hr (by first | decide | omega) (by rfl) (pa_cons (pv 0) (pa_cons (pe_op op_sub (pv 1) pe_int) (pa_cons (pv 6) pa_nil)))) pa_nil)) (pg_name (i := 7) sc_law_tree.nd rfl (Or.inl rfl))) (pss_cons (ps_for PassesOwn.never rfl (pi_range1 (by rfl) T.z_range (pa_cons (pe_op op_sub (pv 5) pe_int) pa_nil)) (pg_name (i := 8) sc_law_tree.nd rfl (Or.inl rfl)) (pss_one (ps_expr (pe_bm PySem.F.plainAttrs_list PySem.F.slot_list_append PySem.F.type_list_append mt_append (pv 7) (pa_cons (C8.pe_c ih hr (by first | decide | omega) (by rfl) (pa_cons (pv 0) (pa_cons (pe_op op_sub (pv 1) pe_int) (pa_cons (pe_ix (ix_seq : IxR _ (rIx K)) (pe_lst (pa_cons (pe_op op_fdiv (pv 2) (pv 5)) (pa_cons pe_int pa_nil))) (pe_callTy call_int2 (by rfl) T.z_int (by decide +kernel) (pa_cons (pe_cmpR op_gt (pv 6) (pe_op op_fdiv (pv 2) (pv 5)) (nomark _)) pa_nil)) (fun _ _ => rfl)) pa_nil)))) pa_nil) : PE _ _ (tBM K _ _ _ _))))) (pss_one (ps_ret (pe_tup (pa_cons (pe_ix (ix_seq : IxR _ (rIx K)) (pe_lst (pa_cons pe_str (pa_cons pe_str pa_nil))) (C8.pe_c (k_law_take T) hr (by first | decide | omega) (by rfl) (pa_cons (pv 0) (pa_cons pe_int pa_nil))) (fun _ _ => rfl)) (pa_cons (pe_callTy (call_tup2 : CallR _ _ (rTup K)) (by rfl) T.z_tuple (by decide +kernel) (pa_cons (pv 7) pa_nil)) pa_nil))))))))))))), ?_⟩
      walk_at "ss"
      refine ⟨h, d, _, rfl, hh, by omega, fun r H1 r0 r1 c1 hh1 => ?_⟩
      walk_at "ss"
      refine o_eqS rfl ?_
      walk_at "ss"
      refine ite2 (fun e1 => ?_) (fun e1 => ?_)
      · refine iteT ?_
        walk_at "ss"
        refine n_obj (lz (by simp)) fun p2 H2 n2 s2 e2 => ?_
        have nn2 := hh1.new n2
        walk_at "ss"
        refine ⟨h, d, _, rfl, hh1.same s2, by omega, fun r3 H3 r4 r5 c3 hh3 => ?_⟩
        obtain ⟨j, hj⟩ : ∃ j : Nat, r3 = (j : Int) := ⟨r3.toNat, by omega⟩
        subst hj
        obtain ⟨sg, gs, hs⟩ := str_item SIG (j := j) (by show j < 6; omega)
        walk_at "ss"
        refine o_ixL (lst_of (c3.at e2 nn2.1.symm)) (atI_nat gs) ?_
        have k3 : Keep h H H3 := (c1.keep.trans s2.keep).trans c3.keep
        walk_at "ss"
        refine ⟨h, d, rfl, hh3, fun v4 e4 H4 k4 hh4 t4 g4 => ?_⟩
        walk_at "ss"
        refine ⟨h, d, rfl, hh4, fun v5 e5 H5 k5 hh5 t5 g5 => ?_⟩
        walk_at "ss"
        refine n_obj (lz (by simp)) fun p6 H6 n6 s6 e6 => ?_
        refine q _ H6 (.cmp sg e4 e5) (((k3.trans k4).trans k5).trans s6.keep) (hh5.same s6) ?_ ?_ ?_ ?_
        · rw [Cd.d]
          exact .tup e6 (.cons (.str _) (.cons (.str _) (.cons ((t4.tk (hh4.keep_tk k5)).tk s6.tk) (.cons (t5.tk s6.tk) .nil))))
        · rw [okC]
          exact ⟨hs, g4, g5⟩
        · cases n <;> (simp only [dp])
        · rw [wt]
          exact Nat.le_trans (show 130 ≤ 1 * 140 by decide) (Nat.mul_le_mul hz.1 (Nat.le_add_right _ _))
      have e1 : ¬ n = 0 := fun h => e1 (decide_eq_true (by rw [h]; rfl))
      walk_at "ss"
      refine ite2 (fun e2 => ?_) (fun e2 => ?_)
      · refine iteT ?_
        walk_at "ss"
        refine n_obj (lz (by simp)) fun p2 H2 n2 s2 e2 => ?_
        have nn2 := hh1.new n2
        walk_at "ss"
        refine ⟨h, d, _, rfl, hh1.same s2, by omega, fun r3 H3 r4 r5 c3 hh3 => ?_⟩
        obtain ⟨j, hj⟩ : ∃ j : Nat, r3 = (j : Int) := ⟨r3.toNat, by omega⟩
        subst hj
        obtain ⟨sg, gs, hs⟩ := str_item SIG (j := j) (by show j < 6; omega)
        walk_at "ss"
        refine o_ixL (lst_of (c3.at e2 nn2.1.symm)) (atI_nat gs) ?_
        have k3 : Keep h H H3 := (c1.keep.trans s2.keep).trans c3.keep
        walk_at "ss"
        refine ⟨h, d, rfl, hh3, fun v4 e4 H4 k4 hh4 t4 g4 => ?_⟩
        walk_at "ss"
        refine ⟨h, d, rfl, hh4, fun v5 e5 H5 k5 hh5 t5 g5 => ?_⟩
        walk_at "ss"
        refine n_obj (lz (by simp)) fun p6 H6 n6 s6 e6 => ?_
        refine q _ H6 (.cmp sg e4 e5) (((k3.trans k4).trans k5).trans s6.keep) (hh5.same s6) ?_ ?_ ?_ ?_
        · rw [Cd.d]
          exact .tup e6 (.cons (.str _) (.cons (.str _) (.cons ((t4.tk (hh4.keep_tk k5)).tk s6.tk) (.cons (t5.tk s6.tk) .nil))))
        · rw [okC]
          exact ⟨hs, g4, g5⟩
        · cases n <;> (simp only [dp])
        · rw [wt]
          exact Nat.le_trans (show 130 ≤ 1 * 140 by decide) (Nat.mul_le_mul hz.1 (Nat.le_add_right _ _))
      have e2 : ¬ r < 2 := fun h => e2 (decide_eq_true h)
      obtain ⟨n, rfl⟩ : ∃ n', n = n' + 1 := ⟨n - 1, by omega⟩
      walk_at "ss"
      refine ite2 (fun e3 => ?_) (fun e3 => ?_)
      · walk_at "ss"
        have e3 := of_decide_eq_true e3
        refine ite2 (fun e4 => ?_) (fun e4 => ?_)
        · walk_at "ss"
          refine n_obj (lz (by simp)) fun p2 H2 n2 s2 e2 => ?_
          have nn2 := hh1.new n2
          walk_at "ss"
          refine ⟨h, d, _, rfl, hh1.same s2, by omega, fun r3 H3 r4 r5 c3 hh3 => ?_⟩
          obtain ⟨j, hj⟩ : ∃ j : Nat, r3 = (j : Int) := ⟨r3.toNat, by omega⟩
          subst hj
          obtain ⟨sg, gs, hs⟩ := str_item SIG (j := j) (by show j < 6; omega)
          walk_at "ss"
          refine o_ixL (lst_of (c3.at e2 nn2.1.symm)) (atI_nat gs) ?_
          have k3 : Keep h H H3 := (c1.keep.trans s2.keep).trans c3.keep
          walk_at "ss"
          refine ⟨h, d, rfl, hh3, fun v4 e4 H4 k4 hh4 t4 g4 => ?_⟩
          walk_at "ss"
          refine ⟨h, d, rfl, hh4, fun v5 e5 H5 k5 hh5 t5 g5 => ?_⟩
          walk_at "ss"
          refine n_obj (lz (by simp)) fun p6 H6 n6 s6 e6 => ?_
          refine q _ H6 (.cmp sg e4 e5) (((k3.trans k4).trans k5).trans s6.keep) (hh5.same s6) ?_ ?_ ?_ ?_
          · rw [Cd.d]
            exact .tup e6 (.cons (.str _) (.cons (.str _) (.cons ((t4.tk (hh4.keep_tk k5)).tk s6.tk) (.cons (t5.tk s6.tk) .nil))))
          · rw [okC]
            exact ⟨hs, g4, g5⟩
          · cases n <;> (simp only [dp])
          · rw [wt]
            exact Nat.le_trans (show 130 ≤ 1 * 140 by decide) (Nat.mul_le_mul hz.1 (Nat.le_add_right _ _))
        · have e4 : ¬ (z : Int) < 2 := fun h => e4 (decide_eq_true h)
          walk_at "ss"
          refine o_eqS rfl ?_
          walk_at "ss"
          rw [decide_eq_false (fun z => by have := V.int.inj z; omega)]
          refine iteF ?_
          walk_at "ss"
          refine ⟨h, d, _, rfl, hh1, by omega, fun r5 H5 r6 r7 c5 hh5 => ?_⟩
          walk_at "ss"
          have k5 := c1.keep.trans c5.keep
          refine s_cut (fun σ H' => ∃ many : Nat, σ = [some (.ref h), some (.int ((n + 1 : Nat) : Int)), some (.int (z : Int)), some (.int r), none, some (.int (many : Int)), none, none, none] ∧ Keep h H H' ∧ HandAt H' h d ∧ 2 ≤ many ∧ many ≤ z) ?_ (fun σ H6 hp => ?_)
          · walk_at "ss"
            refine ⟨h, d, _, rfl, hh5, by omega, fun r8 H8 r9 r10 c8 hh8 => ?_⟩
            walk_at "ss"
            refine o_eqS rfl ?_
            walk_at "ss"
            refine ite2 (fun e6 => ?_) (fun e6 => ?_)
            · walk_at "ss"
              exact ⟨2, rfl, k5.trans c8.keep, hh8, by omega, by omega⟩
            · walk_at "ss"
              exact ⟨(2 + r5 / 3).toNat, by rw [Int.toNat_of_nonneg (by omega)]; rfl, k5.trans c8.keep, hh8, by omega, by omega⟩
          · obtain ⟨many, rfl, k6, hh6, m2, mz⟩ := hp
            have hg : ((z : Int) / (many : Int)) = ((z / many : Nat) : Int) := rfl
            walk_at "ss"
            rw [hg]
            refine n_obj (lz (by simp)) fun p7 H7 n7 s7 e7 => ?_
            have nn7 := hh6.new n7
            walk_at "ss"
            refine ⟨h, d, _, rfl, hh6.same s7, by omega, fun r8 H8 r9 r10 c8 hh8 => ?_⟩
            obtain ⟨j, hj⟩ : ∃ j : Nat, r8 = (j : Int) := ⟨r8.toNat, by omega⟩
            subst hj
            obtain ⟨fi, gf, hf⟩ : ∃ fi : Nat, [V.int ((z / many : Nat) : Int), V.int ((z : Int) - (many : Int) + 1)][j]? = some (.int (fi : Int)) ∧ (fi = z / many ∨ fi = z - many + 1) := by
              have hj : j < 2 := by omega
              match j, hj with
              | 0, _ => exact ⟨_, rfl, .inl rfl⟩
              | 1, _ => exact ⟨z - many + 1, by rw [show (z : Int) - (many : Int) + 1 = ((z - many + 1 : Nat) : Int) by omega]; rfl, .inr rfl⟩
            obtain ⟨f1, f8, g1, g8, hsum⟩ := split_ok m2 mz hz.2 hf
            have k8 := (k6.trans s7.keep).trans c8.keep
            walk_at "ss"
            refine o_ixL (lst_of (c8.at e7 nn7.1.symm)) (atI_nat gf) ?_
            walk_at "ss"
            refine ⟨h, d, n, fi, by rw [show ((n + 1 : Nat) : Int) - 1 = n by omega]; rfl, hh8, by omega, ⟨f1, f8⟩, fun v9 H9 c9 k9 hh9 t9 o9 d9 w9 => ?_⟩
            walk_at "ss"
            refine n_obj (lz (by simp)) fun D H10 nD s10 e10 => ?_
            have nnD := hh9.new nD
            have hh10 := hh9.same s10
            have k9' := k8.trans k9
            have hD0 : H D = none := k9'.free nD nnD.1.symm
            walk_at "ss"
            refine k_r1 (by omega) (by omega) ?_
            refine f_range (fun i σ H' => ∃ xk us cs, σ = [some (.ref h), some (.int ((n + 1 : Nat) : Int)), some (.int (z : Int)), some (.int r), none, some (.int (many : Int)), some (.int (fi : Int)), some (.ref D), xk] ∧ Keep h H H' ∧ HandAt H' h d ∧ H' D = some (.lst us) ∧
              TpAll H' us (Cd.ds cs) ∧ cs.length = i + 1 ∧ oksC cs ∧ dps n cs ∧ wts cs ≤ (fi + i * (if fi > z / many then 1 else z / many)) * (147 + 20 * n))
              ⟨_, [v9], [c9], rfl, k9'.trans s10.keep, hh10, e10, .cons (t9.tk s10.tk) .nil, rfl, by rw [oksC, oksC]; exact ⟨o9, True.intro⟩, by rw [dps, dps]; exact ⟨d9, True.intro⟩, by simp only [wts]; have := wt_step f1 w9; simpa using this⟩ (fun i σ H11 hi p => ?_) (fun σ H11 p => ?_)
            · obtain ⟨xk, us, cs, rfl, k11, hh11, e11, t11, lc, oc, dc, wc⟩ := p
              have lus : us.length = cs.length := by rw [t11.length, ds_len]
              walk_at "ss"
              refine m_ty (lst_of e11) ?_
              walk_at "ss"
              rw [hg]
              refine n_obj (lz (by simp)) fun p12 H12 n12 s12 e12 => ?_
              walk_at "ss"
              rw [hg]
              obtain ⟨rest, hrest⟩ : ∃ rest : Nat, rest = if fi > z / many then 1 else z / many := ⟨_, rfl⟩
              have r1 : 1 ≤ rest ∧ rest ≤ 8 := by rw [hrest]; split <;> omega
              refine o_ixL (lst_of e12) (v := .int (rest : Int)) ?_ ?_
              · rw [hrest]
                by_cases hgt : fi > z / many
                · rw [if_pos hgt, decide_eq_true (by omega)]
                  rfl
                · rw [if_neg hgt, decide_eq_false (by omega)]
                  rfl
              walk_at "ss"
              refine ⟨h, d, n, rest, by rw [show ((n + 1 : Nat) : Int) - 1 = n by omega]; rfl, hh11.same s12, by omega, r1, fun v13 H13 c13 k13 hh13 t13 o13 d13 w13 => ?_⟩
              have e13 := k13 _ _ nnD.1.symm (s12 _ _ e11)
              walk_at "ss"
              refine m_app e13 (by rw [lus]; exact small1000' (by omega)) fun H14 c14 e14 => ?_
              refine ⟨_, us ++ [v13], cs ++ [c13], rfl, ((k11.trans s12.keep).trans k13).chg c14 hD0, hh13.chg c14 nnD.1 nnD.2, e14, ?_, by rw [List.length_append, lc]; rfl, oks_snoc oc o13, dps_snoc dc d13, ?_⟩
              · rw [ds_snoc]
                exact tpSnoc (((t11.tk s12.tk).tk ((hh11.same s12).keep_tk k13)).tk (c14.tk e13)) (t13.tk (c14.tk e13))
              · rw [wts_snoc]
                rw [← hrest] at wc ⊢
                have w2 := wt_step r1.1 w13
                have e2 : (fi + (i + 1) * rest) * (147 + 20 * n) = (fi + i * rest) * (147 + 20 * n) + rest * (147 + 20 * n) := by
                  rw [← Nat.add_mul, Nat.succ_mul]
                  congr 1
                  omega
                omega
            · obtain ⟨xk, us, cs, rfl, k11, hh11, e11, t11, lc, oc, dc, wc⟩ := p
              have lc : cs.length = ((many : Int) - 1).toNat + 1 := lc
              have i2 : ((many : Int) - 1).toNat = many - 1 := by omega
              walk_at "ss"
              refine n_obj (lz (by simp)) fun p12 H12 n12 s12 e12 => ?_
              have nn12 := hh11.new n12
              walk_at "ss"
              refine ⟨h, d, _, rfl, hh11.same s12, by omega, fun r13 H13 r14 r15 c13 hh13 => ?_⟩
              obtain ⟨j2, hj2⟩ : ∃ j : Nat, r13 = (j : Int) := ⟨r13.toNat, by omega⟩
              subst hj2
              obtain ⟨o, go⟩ : ∃ o : Bool, [V.str "and", V.str "or"][j2]? = some (.str (jw o)) := by
                have hj : j2 < 2 := by omega
                match j2, hj with
                | 0, _ => exact ⟨false, rfl⟩
                | 1, _ => exact ⟨true, rfl⟩
              walk_at "ss"
              refine o_ixL (lst_of (c13.at e12 nn12.1.symm)) (atI_nat go) ?_
              walk_at "ss"
              refine b_tup (lst_of (c13.at (s12 _ _ e11) nnD.1.symm)) fun p14 H14 n14 s14 e14 => ?_
              walk_at "ss"
              refine n_obj (lz (by simp)) fun p15 H15 n15 s15 e15 => ?_
              refine q _ H15 (.jn o cs) ((((k11.trans s12.keep).trans c13.keep).trans s14.keep).trans s15.keep) ((hh13.same s14).same s15) ?_ ?_ ?_ ?_
              · rw [Cd.d]
                exact .tup e15 (.cons (.str _) (.cons (.tup (s15 _ _ e14) ((((t11.tk s12.tk).tk ((hh11.same s12).chg_tk c13)).tk s14.tk).tk s15.tk)) .nil))
              · rw [okC]
                exact ⟨by omega, oc⟩
              · simp only [dp]
                exact dc
              · rw [wt]
                rw [i2] at wc
                exact Nat.le_trans wc (Nat.mul_le_mul hsum (by omega))
      · have e3 : ¬ r > 2 := fun h => e3 (decide_eq_true h)
        refine iteF ?_
        walk_at "ss"
        refine o_eqS rfl ?_
        walk_at "ss"
        have hr2 : r = 2 := by omega
        rw [hr2, decide_eq_true rfl]
        refine iteT ?_
        walk_at "ss"
        refine ⟨h, d, n, z, by rw [show ((n + 1 : Nat) : Int) - 1 = n by omega]; rfl, hh1, by omega, hz, fun v6 H6 c6 k6 hh6 t6 o6 d6 w6 => ?_⟩
        walk_at "ss"
        refine n_obj (lz (by simp)) fun p7 H7 n7 s7 e7 => ?_
        refine q _ H7 (.no c6) ((c1.keep.trans k6).trans s7.keep) (hh6.same s7) ?_ ?_ ?_ ?_
        · rw [Cd.d]
          exact .tup e7 (.cons (.str _) (.cons (t6.tk s7.tk) .nil))
        · rw [okC]
          exact o6
        · simp only [dp]
          exact d6
        · rw [wt]
          have := wt_step hz.1 w6
          exact Nat.le_trans (Nat.le_trans (by omega) this) (Nat.mul_le_mul_left _ (by omega))
end
end K03
local macro_rules | `(tactic| walk_at "trZ") => `(tactic| first | assumption | exact lst_of (by assumption) | exact tup_of (by assumption) | (refine L2.Same.seq (by assumption) ?_; walk_at "trZ") | (refine seqT (by assumption) ?_; walk_at "trZ"))
local macro_rules | `(tactic| walk_at "sZ") => `(tactic| with_reducible first
  | refine s_seq ?_ | refine s_asg ?_ | refine g_name ?_ | refine s_ret ?_ | refine s_retN ?_ | refine s_drop ?_ | refine s_if ?_ | refine s_next ?_ | refine s_brk ?_ | refine s_ct ?_ | refine s_for ?_
  | (apply e_var; with_unfolding_all rfl) | refine e_c ?_ | refine e_op ?_ | refine e_un ?_ | refine a_cons ?_ | refine a_nil ?_ | refine c_b ?_ | refine c_call ?_ | refine t_test ?_ | refine k_bl ?_ | refine t_b ?_ | refine t_tr ?_ | refine k_trB ?_ | refine k_trN ?_ | refine k_trI ?_
  | refine t_and ?_ | refine t_or ?_ | refine t_not ?_ | refine e_andV ?_ | refine e_orV ?_ | refine e_notV ?_ | refine e_if ?_ | refine e_chain ?_ | refine e_tup ?_ | refine e_lst ?_ | refine e_sl ?_ | refine p_no ?_ | refine p_so ?_ | refine k_int ?_
  | refine m_bm ?_ | refine g_sub ?_ | refine m_m1 ?_ | refine m_st ?_ | refine e_lc ?_ | refine t_yes ?_ | refine w_r1 ?_ | refine w_r2 ?_ | refine w_l ?_ | refine w_t ?_ | refine w_s ?_ | refine k_s ?_
  | (apply s_aug; with_unfolding_all rfl) | refine i_add ?_ | refine o_addI ?_ | refine o_I0 ?_ | refine b_int ?_ | refine b_intB ?_ | refine b_abs ?_ | refine u_neg ?_ | refine o_isN ?_ | refine o_ntN ?_ | refine o_inS ?_ | refine o_niS ?_
  | refine g_cons ?_ | refine g_nil ?_ | refine e_joined ?_ | refine j_nil ?_ | refine j_cons ?_ | refine e_fmt ?_
  | refine WD.e_dget ?_ | refine WD.s_dput ?_
  | (refine o_mod ?_ ?_; omega) | (refine o_fdiv ?_ ?_ ?_; omega; omega) | (refine o_pow ?_ ?_ ?_ ?_; omega; omega; omega) | (refine o_mulI2 ?_ ?_ ?_; omega; omega) | (refine o_mulI1 ?_ ?_ ?_; omega; omega)
  | (refine WN.o_fdW ?_ ?_ ?_; omega; omega))
local macro_rules | `(tactic| walk_at "ssZ") => `(tactic| repeat walk_at "sZ")
local macro_rules | `(tactic| walk_at "neZ") => `(tactic| first | assumption | exact Ne.symm (by assumption) | exact WN.ne_new (by assumption) (by walk_at "hp0Z") | exact Ne.symm (WN.ne_new (by assumption) (by walk_at "hp0Z")))
local macro_rules | `(tactic| walk_at "hp0Z") => `(tactic| first | assumption | (refine WN.sm (by assumption) ?_; walk_at "hp0Z"))
local macro_rules | `(tactic| walk_at "hpZ") => `(tactic| first | assumption | (refine WN.sm (by assumption) ?_; walk_at "hpZ") | (refine WN.cm (by assumption) (by walk_at "neZ") ?_; walk_at "hpZ"))
local macro_rules | `(tactic| walk_at "sqZ") => `(tactic| first | assumption | exact lst_of (by walk_at "hpZ") | exact tup_of (by walk_at "hpZ") | (refine L2.Same.seq (by assumption) ?_; walk_at "sqZ") | (refine seqT (by assumption) ?_; walk_at "sqZ"))
local macro_rules | `(tactic| walk_at "saZ") => `(tactic| first | assumption | exact L2.Same.refl _ | (refine L2.Same.trans ?_ (by assumption); walk_at "saZ"))
local macro_rules | `(tactic| walk_at "tyZ") => `(tactic| first | exact .base (.int _) | exact .base (.bl _) | exact .base .non | exact .base (.str _) | exact .base (.lst (by walk_at "hpZ")) | exact .base (.tup (by walk_at "hpZ")))
local macro_rules | `(tactic| walk_at "xZ") => `(tactic| with_reducible first
  | walk_at "sZ"
  | (refine n_obj ?_ (fun _ _ _ _ _ => ?_); exact lz (Nat.le_of_ble_eq_true rfl))
  | (apply o_ixT; walk_at "sqZ"; with_unfolding_all rfl)
  | (apply o_ixL; walk_at "sqZ"; with_unfolding_all rfl)
  | (apply g_tup; walk_at "sqZ"; with_unfolding_all rfl)
  | (apply l_L; walk_at "sqZ"; intro _ _ _ _ _)
  | (refine k_r1 ?_ ?_ ?_; omega; omega)
  | refine WN.b_mx ?_ | refine WN.b_mn ?_
  | (apply k_l; walk_at "sqZ") | (apply k_t; walk_at "sqZ")
  | (apply WS.b_lenT2; walk_at "sqZ") | (apply WS.b_lenT3; walk_at "sqZ")
  | (apply WN.b_is2 (b := true); walk_at "tyZ"; exact L2.kit_ty (by decide +kernel)) | (apply WN.b_is2 (b := false); walk_at "tyZ"; exact L2.kit_ty (by decide +kernel))
  | refine L2.iteT ?_ | refine L2.iteF ?_
  | (refine WN.iteTT ?_ ?_; first | decide +kernel | exact WN.nNRN _ | exact WN.nNIN _ | exact WN.nNSN _ | exact WN.nNBN _)
  | (refine WN.iteFF ?_ ?_; first | decide +kernel | exact WN.nRN _ | exact WN.nIN _ | exact WN.nSN _ | exact WN.nBN _)
  | (refine o_eqS ?_ ?_; with_unfolding_all rfl) | (refine o_neS ?_ ?_; with_unfolding_all rfl))
local macro_rules | `(tactic| walk_at "xxZ") => `(tactic| repeat walk_at "xZ")
local macro_rules | `(tactic| walk_at "frZ") => `(tactic| first | assumption | exact WN.free_of (by assumption) (by walk_at "saZ"))
local macro_rules | `(tactic| walk_at "tpZ") => `(tactic| first | exact .nil | exact .int _ | exact .bl _ | exact .str _ | exact .non | (refine .cons ?_ ?_ <;> walk_at "tpZ") | (refine .tup (by walk_at "hpZ") ?_; walk_at "tpZ"))
namespace K03
open PySem PySem.Spec PyProof.Rows L2 Wy WM W3 W4 W5 W7 W8 W9 W10 W6 WN

-- WIDE
-- REC _law_words_of 3
theorem flat1 (x : V) : ∀ k : Nat, (List.replicate k [x]).flatten = List.replicate k x
  | 0 => rfl
  | k + 1 => by rw [List.replicate_succ, List.flatten_cons, flat1 x k, List.replicate_succ]; rfl
theorem o_rep {H : Hp} {Q : VK} {l : Addr} {x : V} {k : Nat} (e : H l = some (.lst [x])) (hk : k ≤ 1000) (h : ∀ p H2, H p = none → Same H H2 → H2 p = some (.lst (List.replicate k x)) → Q (.ref p) H2) : rRep (.ref l) (.int (k : Int)) H Q := by
  have hs : sizeLine = 16777216 := sizeLine_eq
  refine ⟨l, k, [x], rfl, rfl, e, by omega, by omega, by rw [List.length_singleton, Int.toNat_natCast]; omega, fun p n => ?_⟩
  rw [Int.toNat_natCast]
  rw [flat1 x k]
  exact h p _ n (same_new n) upd_same
/-! ### pairs around words -/
def pw (p : Nat) (w : List Str) : List Str := List.replicate p ("(" : Str) ++ w ++ List.replicate p (")" : Str)
theorem pw_succ (p : Nat) (w : List Str) : pw (p + 1) w = ("(" : Str) :: (pw p w ++ [(")" : Str)]) := by
  unfold pw
  rw [List.replicate_succ, List.replicate_succ']
  simp
theorem pw_len (p : Nat) (w : List Str) : (pw p w).length = w.length + 2 * p := by
  unfold pw
  simp only [List.length_append, List.length_replicate]
  omega
theorem pw_wrap (b : Bool) (w : List Str) : pw (if b then 1 else 0) w = wrapW b w := by
  cases b with
  | true => simp [pw, wrapW]
  | false => simp [pw, wrapW]
theorem dr_pw {c : Cd} {w : List Str} {d : Nat} (h : Dr c 0 w d) : ∀ p : Nat, Dr c p (pw p w) (p + d)
  | 0 => by
    have : pw 0 w = w := by simp [pw]
    rw [this, Nat.zero_add]
    exact h
  | p + 1 => by
    rw [pw_succ, show p + 1 + d = p + d + 1 by omega]
    exact .par (dr_pw h p)
theorem drs_snoc {o : Bool} {c : Cd} {q : Nat} {w : List Str} {d : Nat} (h : Dr c q w d) (k : 1 ≤ q ∨ okIn o c) : ∀ {cs : List Cd} {ws : List (List Str)} {e : Nat}, DrAll o cs ws e → DrAll o (cs ++ [c]) (ws ++ [w]) (max e d)
  | [], [], _, .nil => by
    have := DrAll.cons h k (DrAll.nil (o := o))
    rw [Nat.max_comm] at this
    exact this
  | a :: cs, v :: ws, _, .cons (d := d1) (e := e1) h1 k1 h2 => by
    have := DrAll.cons h1 k1 (drs_snoc h k h2)
    rw [← Nat.max_assoc] at this
    exact this
theorem seps_snoc (o : Bool) (w : List Str) : ∀ {ws : List (List Str)}, ws ≠ [] → seps o (ws ++ [w]) = seps o ws ++ (jw o :: w)
  | [], h => absurd rfl h
  | [v], _ => rfl
  | v :: u :: r, _ => by
    have := seps_snoc o w (ws := u :: r) (by simp)
    show v ++ (jw o :: seps o (u :: r ++ [w])) = v ++ (jw o :: seps o (u :: r)) ++ _
    rw [this]
    simp
theorem wsC_snoc (o : Bool) (c : Cd) : ∀ cs : List Cd, wsC o (cs ++ [c]) = wsC o cs ++ [wrapW (needB o c) (wC c)]
  | [] => by rw [List.nil_append, wsC, wsC, wsC]; rfl
  | a :: cs => by rw [List.cons_append, wsC, wsC, wsC_snoc o c cs]; rfl
theorem dsC_snoc (o : Bool) (c : Cd) : ∀ cs : List Cd, dsC o (cs ++ [c]) = max (dsC o cs) (dC c + (if needB o c then 1 else 0))
  | [] => by rw [List.nil_append, dsC, dsC, dsC, Nat.max_comm]
  | a :: cs => by rw [List.cons_append, dsC, dsC, dsC_snoc o c cs, Nat.max_assoc]
/-! ### how many words -/
mutual
def wq : Cd → Nat
  | .cmp _ _ _ => 17
  | .no c => wq c + 21
  | .jn _ cs => wqs cs
def wqs : List Cd → Nat
  | [] => 0
  | c :: cs => wq c + 21 + wqs cs
end
theorem wqs_snoc {c : Cd} : ∀ {cs : List Cd}, wqs (cs ++ [c]) = wqs cs + (wq c + 21)
  | [] => by simp only [List.nil_append, wqs]; omega
  | a :: cs => by rw [List.cons_append, wqs, wqs, wqs_snoc]; omega
theorem wqs_take : ∀ {cs : List Cd} {i : Nat}, wqs (cs.take i) ≤ wqs cs
  | [], i => by rw [List.take_nil]; exact Nat.le_refl _
  | a :: cs, 0 => by rw [List.take_zero, wqs]; exact Nat.zero_le _
  | a :: cs, i + 1 => by
    rw [List.take_succ_cons, wqs, wqs]
    have := wqs_take (cs := cs) (i := i)
    omega
mutual
theorem wq_wt : ∀ c : Cd, wq c ≤ 4 * wt c
  | .cmp _ _ _ => by rw [wq, wt]; decide
  | .no c => by rw [wq, wt]; have := wq_wt c; omega
  | .jn _ cs => by rw [wq, wt]; exact wqs_wts cs
theorem wqs_wts : ∀ cs : List Cd, wqs cs ≤ 4 * wts cs
  | [] => by rw [wqs, wts]; decide
  | c :: cs => by rw [wqs, wts]; have := wq_wt c; have := wqs_wts cs; omega
end
theorem wqs_get : ∀ {cs : List Cd} {i : Nat} {c : Cd}, cs[i]? = some c → wq c + 21 ≤ wqs cs
  | [], _, _, h => by cases h
  | a :: cs, 0, _, h => by
    cases h
    rw [wqs]
    omega
  | a :: cs, i + 1, c, h => by
    rw [wqs]
    have := wqs_get (cs := cs) (i := i) h
    omega
section
variable {P : Program} {w : World} {K : PySem.W.Frag} {mg : Str → Option Value} {base : Heap}
theorem k_law_many (T : Tx w K mg) : C8.Cal P w K mg base 2 "_law_many" spMany [] := by
  refine cal_of (N := n_law_many) T.d_law_many sc_law_many (fun _ _ F => F.bindsN fun _ _ _ _ _ _ us hl => match us, hl with | [_], _ => rfl) (fun vs H Q E h => ?_) (fun f cdv A outer s H vs Q E hr h => ?_)
  · obtain ⟨h, d, rfl, _⟩ := h
    rfl
  obtain ⟨h, d, rfl, hh, q⟩ := h
  refine ⟨_, (pss_cons (ps_asg (C8.pe_c (k_law_take T) hr (by first | decide | omega) (by rfl) (pa_cons (pv 0) (pa_cons pe_int pa_nil))) (pg_name (i := 1) sc_law_many.nd rfl (Or.inl rfl))) (pss_cons (ps_if (pt_cmpR (op_eq2 hr.units : OpR _ _ (rEq2 K)) (pv 1) pe_int (nomark _)) (pss_one (ps_ret pe_int)) pss_nil) (pss_cons (ps_if (pt_cmpR (op_eq2 hr.units : OpR _ _ (rEq2 K)) (pv 1) pe_int (nomark _)) (pss_one (ps_ret pe_int)) pss_nil) (pss_one (ps_ret (pe_ix (ix_seq : IxR _ (rIx K)) (pe_lst (pa_cons pe_int (pa_cons pe_int (pa_cons pe_int pa_nil)))) (pe_callC cc_max (by rfl) T.z_max (by decide +kernel) (pa_cons pe_int (pa_cons (pe_op op_sub (pv 1) pe_int) pa_nil))) (fun _ _ => rfl))))))), ?_⟩
  walk_at "xxZ"
  refine ⟨h, d, _, rfl, hh, by omega, fun r H1 r0 r1 c1 hh1 => ?_⟩
  walk_at "xxZ"
  refine iteI (fun e => ?_) (fun e => ?_)
  · walk_at "xxZ"
    exact q 9 H1 (by omega) c1.keep hh1
  walk_at "xxZ"
  refine iteI (fun e => ?_) (fun e => ?_)
  · walk_at "xxZ"
    exact q 8 H1 (by omega) c1.keep hh1
  walk_at "xxZ"
  rename_i p H2 n2 s2 e2
  have hb : max 0 (r - 35) = 0 ∨ max 0 (r - 35) = 1 ∨ max 0 (r - 35) = 2 := by omega
  rcases hb with e | e | e <;> rw [e]
  · walk_at "xxZ"
    exact q 0 H2 (by omega) (c1.keep.trans s2.keep) (hh1.same s2)
  · walk_at "xxZ"
    exact q 1 H2 (by omega) (c1.keep.trans s2.keep) (hh1.same s2)
  · walk_at "xxZ"
    exact q 2 H2 (by omega) (c1.keep.trans s2.keep) (hh1.same s2)
end
end K03
namespace K03
open PySem PySem.Spec PyProof.Rows L2 Wy WM W3 W4 W5 W7 W8 W9 W10 W6 WN

-- WIDE
-- REC _law_words_of 2
section
variable {P : Program} {w : World} {K : PySem.W.Frag} {mg : Str → Option Value} {base : Heap}
theorem jw_cmp (o : Bool) : decide (V.str (jw o) = V.str "cmp") = false := by cases o <;> rfl
theorem jw_not (o : Bool) : decide (V.str (jw o) = V.str "not") = false := by cases o <;> rfl
theorem seps_nil {o : Bool} {cs : List Cd} {ws : List (List Str)} {d : Nat} (h : DrAll o cs ws d) : (seps o ws).length = 0 ↔ ws = [] := by
  constructor
  · intro e
    have := seps_len h
    cases h with
    | nil => rfl
    | cons _ _ _ => rw [e, List.length_cons] at this; omega
  · intro e
    rw [e]
    rfl
def spDress (m : Nat) : Sp := fun vs H Q _ => ∃ (h d : Addr) (v : V) (c : Cd) (n p : Nat) (more : Bool), vs = [.ref h, v, .int (p : Int), .bl more] ∧ HandAt H h d ∧ Tp H v c.d ∧ okC c ∧ dp n c ∧ n < m ∧ p ≤ 10 ∧ wq c ≤ 8000 ∧
  ∀ r u H' ws (dd p' : Nat), Keep h H H' → HandAt H' h d → H r = none → H u = none → H' r = some (.lst [.ref u, .int (dd : Int)]) → H' u = some (.lst ((ws : List Str).map V.str)) → Dr c p' ws dd → p ≤ p' → p' ≤ p + 9 → (more = false → ws = pw p (wC c) ∧ dd = p + dC c) → ws.length ≤ wq c + 2 * p' → Q (.ref r) H'
theorem spDress_no (vs : List V) (H : Hp) (Q : VK) (E : XK) : ¬ spDress 0 vs H Q E := by
  rintro ⟨_, _, _, _, _, _, _, _, _, _, _, _, h, _⟩
  omega
theorem k_law_dressed (T : Tx w K mg) : ∀ m : Nat, C8.Cal P w K mg base (m + 4) "_law_dressed" (spDress m) []
  | 0 => cal_never (ps := ["hand", "condition", "pairs", "more"]) T.d_law_dressed (fun _ _ F => F.bindsN fun _ _ _ _ _ _ us hl => match us, hl with | [_, _, _, _], _ => rfl) spDress_no
  | m + 1 => by
    have ih := k_law_dressed T m
    refine cal_of (N := n_law_dressed) T.d_law_dressed sc_law_dressed (fun _ _ F => F.bindsN fun _ _ _ _ _ _ us hl => match us, hl with | [_, _, _, _], _ => rfl) (fun vs H Q E h => ?_) (fun f cdv A outer s H vs Q E hr h => ?_)
    · obtain ⟨h, d, v, c, n, p, more, rfl, _⟩ := h
      rfl
    · obtain ⟨h, d, v, c, n, p, more, rfl, hh, te, ok, hdp, hn, hp, hwq, q⟩ := h
      refine ⟨_, (C8.pss_cut (ps_if (pt_tr (pv 3) : PT _ _ (tTr K _)) (pss_one (ps_asg (pe_op op_add3 (pv 2) (C8.pe_c (k_law_many T) hr (by first | decide | omega) (by rfl) (pa_cons (pv 0) pa_nil))) (pg_name (i := 2) sc_law_dressed.nd rfl (Or.inl rfl)))) pss_nil) (pss_cons (ps_if (pt_cmpR (op_eq2 hr.units : OpR _ _ (rEq2 K)) (pe_ix (ix_seq : IxR _ (rIx K)) (pv 1) pe_int (fun _ _ => rfl)) pe_str (nomark _)) (pss_cons (ps_asg (pe_op op_add3 (pe_op op_add3 (C8.pe_c (k_law_words_of T 2) hr (by first | decide | omega) (by rfl) (pa_cons (pe_ix (ix_seq : IxR _ (rIx K)) (pv 1) pe_int (fun _ _ => rfl)) pa_nil)) (pe_lst (pa_cons (pe_ix (ix_seq : IxR _ (rIx K)) (pv 1) pe_int (fun _ _ => rfl)) pa_nil))) (C8.pe_c (k_law_words_of T 2) hr (by first | decide | omega) (by rfl) (pa_cons (pe_ix (ix_seq : IxR _ (rIx K)) (pv 1) pe_int (fun _ _ => rfl)) pa_nil))) (pg_name (i := 4) sc_law_dressed.nd rfl (Or.inl rfl))) (pss_one (ps_ret (pe_lst (pa_cons (pe_op op_add3 (pe_op op_add3 (pe_op op_rep (pe_lst (pa_cons pe_str pa_nil)) (pv 2)) (pv 4)) (pe_op op_rep (pe_lst (pa_cons pe_str pa_nil)) (pv 2))) (pa_cons (pv 2) pa_nil)))))) pss_nil) (pss_cons (ps_if (pt_cmpR (op_eq2 hr.units : OpR _ _ (rEq2 K)) (pe_ix (ix_seq : IxR _ (rIx K)) (pv 1) pe_int (fun _ _ => rfl)) pe_str (nomark _)) (pss_cons (ps_asg (C8.pe_c ih hr (by first | decide | omega) (by rfl) (pa_cons (pv 0) (pa_cons (pe_ix (ix_seq : IxR _ (rIx K)) (pv 1) pe_int (fun _ _ => rfl)) (pa_cons (pe_callTy call_int2 (by rfl) T.z_int (by decide +kernel) (pa_cons (C8.pe_c (k_law_needs T) hr (by first | decide | omega) (by rfl) (pa_cons pe_str (pa_cons (pe_ix (ix_seq : IxR _ (rIx K)) (pv 1) pe_int (fun _ _ => rfl)) pa_nil))) pa_nil)) (pa_cons (pv 3) pa_nil))))) (pg_name (i := 5) sc_law_dressed.nd rfl (Or.inl rfl))) (pss_one (ps_ret (pe_lst (pa_cons (pe_op op_add3 (pe_op op_add3 (pe_op op_add3 (pe_op op_rep (pe_lst (pa_cons pe_str pa_nil)) (pv 2)) (pe_lst (pa_cons pe_str pa_nil))) (pe_ix (ix_seq : IxR _ (rIx K)) (pv 5) pe_int (fun _ _ => rfl))) (pe_op op_rep (pe_lst (pa_cons pe_str pa_nil)) (pv 2))) (pa_cons (pe_op op_add3 (pe_op op_add3 (pv 2) pe_int) (pe_ix (ix_seq : IxR _ (rIx K)) (pv 5) pe_int (fun _ _ => rfl))) pa_nil)))))) pss_nil) (pss_cons (ps_asg (pe_lst pa_nil) (pg_name (i := 4) sc_law_dressed.nd rfl (Or.inl rfl))) (pss_cons (ps_asg pe_int (pg_name (i := 6) sc_law_dressed.nd rfl (Or.inl rfl))) (pss_cons (ps_for PassesOwn.never rfl (pi_tup (pe_ix (ix_seq : IxR _ (rIx K)) (pv 1) pe_int (fun _ _ => rfl)) : PI _ _ _ (iTup K _)) (pg_name (i := 7) sc_law_dressed.nd rfl (Or.inl rfl)) (pss_cons (ps_asg (C8.pe_c ih hr (by first | decide | omega) (by rfl) (pa_cons (pv 0) (pa_cons (pv 7) (pa_cons (pe_callTy call_int2 (by rfl) T.z_int (by decide +kernel) (pa_cons (C8.pe_c (k_law_needs T) hr (by first | decide | omega) (by rfl) (pa_cons (pe_ix (ix_seq : IxR _ (rIx K)) (pv 1) pe_int (fun _ _ => rfl)) (pa_cons (pv 7) pa_nil))) pa_nil)) (pa_cons (pv 3) pa_nil))))) (pg_name (i := 5) sc_law_dressed.nd rfl (Or.inl rfl))) (C8.pss_cut (ps_if (pt_cmpR op_gt (pe_callB (call_len2 : CallR _ _ (rLn K)) (by rfl) T.z_len (by decide +kernel) (pa_cons (pv 4) pa_nil)) pe_int (nomark _)) (pss_one (ps_expr (pe_bm PySem.F.plainAttrs_list PySem.F.slot_list_append PySem.F.type_list_append mt_append (pv 4) (pa_cons (pe_ix (ix_seq : IxR _ (rIx K)) (pv 1) pe_int (fun _ _ => rfl)) pa_nil) : PE _ _ (tBM K _ _ _ _)))) pss_nil) (pss_cons (ps_asg (pe_op op_add3 (pv 4) (pe_ix (ix_seq : IxR _ (rIx K)) (pv 5) pe_int (fun _ _ => rfl))) (pg_name (i := 4) sc_law_dressed.nd rfl (Or.inl rfl))) (pss_one (ps_if (pt_cmpR op_gt (pe_ix (ix_seq : IxR _ (rIx K)) (pv 5) pe_int (fun _ _ => rfl)) (pv 6) (nomark _)) (pss_one (ps_asg (pe_ix (ix_seq : IxR _ (rIx K)) (pv 5) pe_int (fun _ _ => rfl)) (pg_name (i := 6) sc_law_dressed.nd rfl (Or.inl rfl)))) pss_nil)))))) (pss_one (ps_ret (pe_lst (pa_cons (pe_op op_add3 (pe_op op_add3 (pe_op op_rep (pe_lst (pa_cons pe_str pa_nil)) (pv 2)) (pv 4)) (pe_op op_rep (pe_lst (pa_cons pe_str pa_nil)) (pv 2))) (pa_cons (pe_op op_add3 (pv 2) (pv 6)) pa_nil))))))))))), ?_⟩
      walk_at "xxZ"
      refine s_cut (fun σ H' => ∃ p' : Nat, σ = [some (.ref h), some (v), some (.int (p' : Int)), some (.bl more), none, none, none, none] ∧ Keep h H H' ∧ HandAt H' h d ∧ p ≤ p' ∧ p' ≤ p + 9 ∧ (more = false → p' = p)) ?_ (fun σ H1 p1 => ?_)
      · walk_at "xxZ"
        cases more with
        | true =>
          walk_at "xxZ"
          refine ⟨h, d, rfl, hh, fun k H1 hk k1 hh1 => ?_⟩
          walk_at "xxZ"
          exact ⟨p + k, by rw [Int.natCast_add]; rfl, k1, hh1, by omega, by omega, fun h => by cases h⟩
        | false =>
          walk_at "xxZ"
          exact ⟨p, rfl, Keep.refl _ _, hh, Nat.le_refl _, by omega, fun _ => rfl⟩
      obtain ⟨p', rfl, k1, hh1, pp, pm, pf⟩ := p1
      have te := te.tk (hh.keep_tk k1)
      cases c with
      | cmp sg l r =>
        rw [okC] at ok
        obtain ⟨hs, gl, gr⟩ := ok
        obtain ⟨a, u, x, rfl, ea, tu, tx⟩ := cd_cmp te
        walk_at "xxZ"
        refine ⟨u, l, rfl, tu, gl, by have := good_dep gl; omega, fun p2 H2 s2 n2 e2 => ?_⟩
        have ea2 := s2 _ _ ea
        walk_at "xxZ"
        rename_i p3 H3 n3 s3 e3
        have ea3 := s3 _ _ ea2
        have ll := wordsE_len gl
        have lr := wordsE_len gr
        refine o_addL (s3 _ _ e2) e3 (lz (by simp only [List.length_map, List.length_cons, List.length_nil]; omega)) fun p4 H4 n4 s4 e4 => ?_
        have ea4 := s4 _ _ ea3
        have S4 := s2.trans (s3.trans s4)
        walk_at "xxZ"
        refine ⟨x, r, rfl, tx.tk S4.tk, gr, by have := good_dep gr; omega, fun p5 H5 s5 n5 e5 => ?_⟩
        refine o_addL (s5 _ _ e4) e5 (lz (by simp only [List.length_map, List.length_append, List.length_cons, List.length_nil]; omega)) fun p6 H6 n6 s6 e6 => ?_
        have e6 : H6 p6 = some (.lst ((wordsE l ++ (sg :: wordsE r)).map V.str)) := by
          rw [e6]
          simp
        have S6 := S4.trans (s5.trans s6)
        walk_at "xxZ"
        rename_i p7 H7 n7 s7 e7
        refine o_rep e7 (by omega) fun p8 H8 n8 s8 e8 => ?_
        walk_at "xxZ"
        refine o_addL e8 ((s7.trans s8) _ _ e6) (lz (by simp only [List.length_map, List.length_append, List.length_replicate, List.length_cons, List.length_nil]; omega)) fun p9 H9 n9 s9 e9 => ?_
        walk_at "xxZ"
        rename_i p10 H10 n10 s10 e10
        refine o_rep e10 (by omega) fun p11 H11 n11 s11 e11 => ?_
        refine o_addL ((s10.trans s11) _ _ e9) e11 (lz (by simp only [List.length_map, List.length_append, List.length_replicate, List.length_cons, List.length_nil]; omega)) fun p12 H12 n12 s12 e12 => ?_
        have e12 : H12 p12 = some (.lst ((pw p' (wordsE l ++ (sg :: wordsE r))).map V.str)) := by
          rw [e12]
          simp [pw]
        walk_at "xxZ"
        rename_i p13 H13 n13 s13 e13
        have S11 := S6.trans (s7.trans (s8.trans (s9.trans (s10.trans s11))))
        have S12 := S11.trans s12
        refine q p13 p12 H13 _ p' p' (k1.trans ((S12.trans s13).keep)) (hh1.same (S12.trans s13)) ((k1.trans S12.keep).free n13 ((hh1.same S12).new n13).1.symm) ((k1.trans S11.keep).free n12 ((hh1.same S11).new n12).1.symm) e13 (s13 _ _ e12) ?_ pp pm (fun hm => ?_) ?_
        · have := dr_pw (.cmp hs gl gr) p'
          rw [Nat.add_zero] at this
          exact this
        · rw [pf hm, wC, dC]
          exact ⟨rfl, rfl⟩
        · rw [pw_len, wq]
          simp only [List.length_append, List.length_cons]
          omega
      | no c =>
        rw [okC] at ok
        obtain ⟨n, rfl, dc⟩ := dp_no hdp
        rw [wq] at hwq
        obtain ⟨a, u, rfl, ea, tu⟩ := cd_no te
        walk_at "xxZ"
        refine ⟨_, false, u, c, rfl, .inl ⟨rfl, rfl⟩, tu, fun H2 s2 => ?_⟩
        have hh2 := hh1.same s2
        have ea2 := s2 _ _ ea
        walk_at "xxZ"
        refine ⟨h, d, u, c, n, if needB false c then 1 else 0, more, by cases needB false c <;> rfl, hh2, tu.tk s2.tk, ok, dc, by omega, by split <;> omega, by omega, fun r2 u2 H3 ws dd p2 k3 hh3 hr2 hu2 e3 f3 dr l2 u2' m2 lw => ?_⟩
        have hq : 1 ≤ p2 ∨ okIn false c := by
          cases hb : needB false c with
          | true =>
            rw [hb] at l2
            exact .inl l2
          | false => exact .inr (need_ok hb)
        have hp2 : p2 ≤ 10 := by
          have : p2 ≤ (if needB false c = true then 1 else 0) + 9 := u2'
          split at this <;> omega
        walk_at "xxZ"
        rename_i p7 H7 n7 s7 e7
        refine o_rep e7 (by omega) fun p8 H8 n8 s8 e8 => ?_
        walk_at "xxZ"
        rename_i p9 H9 n9 s9 e9
        refine o_addL (s9 _ _ e8) e9 (lz (by simp only [List.length_map, List.length_append, List.length_replicate, List.length_cons, List.length_nil]; omega)) fun p10 H10 n10 s10 e10 => ?_
        have S10 := s7.trans (s8.trans (s9.trans s10))
        have e3' := S10 _ _ e3
        walk_at "xxZ"
        refine o_addL e10 (S10 _ _ f3) (Nat.le_of_lt (big1 (by simp only [List.length_map, List.length_append, List.length_replicate, List.length_cons, List.length_nil]; omega))) fun p11 H11 n11 s11 e11 => ?_
        walk_at "xxZ"
        rename_i p12 H12 n12 s12 e12
        refine o_rep e12 (by omega) fun p13 H13 n13 s13 e13 => ?_
        refine o_addL ((s12.trans s13) _ _ e11) e13 (Nat.le_of_lt (big1 (by simp only [List.length_map, List.length_append, List.length_replicate, List.length_cons, List.length_nil]; omega))) fun p14 H14 n14 s14 e14 => ?_
        have e14 : H14 p14 = some (.lst ((pw p' (("not" : Str) :: ws)).map V.str)) := by
          rw [e14]
          simp [pw]
        have S13 := S10.trans (s11.trans (s12.trans s13))
        have S14 := S13.trans s14
        have e3'' := S14 _ _ e3
        walk_at "xxZ"
        rename_i p15 H15 n15 s15 e15
        have e15 : H15 p15 = some (.lst [.ref p14, .int ((p' + (dd + 1) : Nat) : Int)]) := by
          rw [e15]
          have : (p' : Int) + 1 + (dd : Int) = ((p' + (dd + 1) : Nat) : Int) := by omega
          rw [this]
        have S15 := S14.trans s15
        refine q p15 p14 H15 _ _ p' (k1.trans ((s2.keep.trans k3).trans S15.keep)) (hh3.same S15) ((k1.trans ((s2.keep.trans k3).trans S14.keep)).free n15 ((hh3.same S14).new n15).1.symm) ((k1.trans ((s2.keep.trans k3).trans S13.keep)).free n14 ((hh3.same S13).new n14).1.symm) e15 (s15 _ _ e14) (dr_pw (.no dr hq) p') pp pm (fun hm => ?_) ?_
        · obtain ⟨m3, m4⟩ := m2 hm
          rw [pf hm, wC, dC, m3, pw_wrap, m4]
          refine ⟨rfl, ?_⟩
          have : (if needB false c = true then 1 else 0 : Nat) + dC c + 1 = dC c + (if needB false c = true then 1 else 0) + 1 := by omega
          rw [← this]
        · rw [pw_len, wq, List.length_cons]
          omega
      | jn o cs =>
        rw [okC] at ok
        obtain ⟨n, rfl, dc⟩ := dp_jn hdp
        rw [wq] at hwq
        obtain ⟨a, b, us, rfl, ea, eb, tu⟩ := cd_jn te
        have lus := tu.length
        rw [ds_len] at lus
        walk_at "xxZ"
        refine iteFF (jw_cmp o) ?_
        walk_at "xxZ"
        refine iteFF (jw_not o) ?_
        walk_at "xxZ"
        rename_i D0 H2 n2 s2 e2
        have hh2 := hh1.same s2
        refine f_tup (xs := us) (fun i σ H' => ∃ z5 z7 D wsi, ∃ e : Nat, σ = [some (.ref h), some (.ref a), some (.int (p' : Int)), some (.bl more), some (.ref D), z5, some (.int (e : Int)), z7] ∧ Keep h H1 H' ∧ HandAt H' h d ∧ D ≠ h ∧ H1 D = none ∧ H' D = some (.lst ((seps o wsi).map V.str)) ∧ DrAll o (cs.take i) wsi e ∧ (more = false → wsi = wsC o (cs.take i) ∧ e = dsC o (cs.take i)) ∧ (seps o wsi).length ≤ wqs (cs.take i))
          ⟨_, _, D0, [], 0, rfl, s2.keep, hh2, (hh1.new n2).1.symm, n2, e2, by rw [List.take_zero]; exact .nil, fun _ => by rw [List.take_zero, wsC, dsC]; exact ⟨rfl, rfl⟩, Nat.zero_le _⟩ (fun i σ H' hi p => ?_) (fun i x σ H3 hx p3 => ?_) (fun σ H3 p3 => ?_)
        · obtain ⟨_, _, _, _, _, rfl, k3, _⟩ := p
          have nbh : b ≠ h := by
            obtain ⟨_, _, g, _, _⟩ := hh1
            exact ne_of eb g (by intro z; cases z)
          exact tup_of (k3 _ _ nbh eb)
        · obtain ⟨z5, z7, D, wsi, e, rfl, k3, hh3, nD, fD, e3, dr3, m3, l3⟩ := p3
          have tk3 : TK H1 H3 := hh1.keep_tk k3
          obtain ⟨c, gc, tc⟩ := part_at (tu.tk tk3) hx
          have tk : cs.take (i + 1) = cs.take i ++ [c] := by rw [List.take_succ, gc]; rfl
          have wqc := wqs_get gc
          have wqi : wqs (cs.take (i + 1)) ≤ 8000 := Nat.le_trans wqs_take hwq
          rw [tk, wqs_snoc] at wqi
          have nah : a ≠ h := by
            obtain ⟨_, _, g, _, _⟩ := hh1
            exact ne_of ea g (by intro z; cases z)
          have ea3 := k3 _ _ nah ea
          walk_at "xxZ"
          refine ⟨_, o, x, c, rfl, .inr rfl, tc, fun H4 s4 => ?_⟩
          have hh4 := hh3.same s4
          have ea4 := s4 _ _ ea3
          have eD4 := s4 _ _ e3
          walk_at "xxZ"
          refine ⟨h, d, x, c, n, if needB o c then 1 else 0, more, by cases needB o c <;> rfl, hh4, tc.tk s4.tk, oks_get ok.2 gc, dps_get dc gc, by omega, by split <;> omega, by omega, fun r5 u5 H5 ws dd p2 k5 hh5 hr5 hu5 e5 f5 dr5 l5 u5' m5 lw5 => ?_⟩
          have hq : 1 ≤ p2 ∨ okIn o c := by
            cases hb : needB o c with
            | true =>
              rw [hb] at l5
              exact .inl l5
            | false => exact .inr (need_ok hb)
          have hp2 : p2 ≤ 10 := by
            have : p2 ≤ (if needB o c = true then 1 else 0) + 9 := u5'
            split at this <;> omega
          have ea5 := k5 _ _ nah ea4
          have eD5 := k5 _ _ nD eD4
          have nr5 : r5 ≠ D := (ne_of_none eD4 hr5).symm
          have nu5 : u5 ≠ D := (ne_of_none eD4 hu5).symm
          have k35 : Keep h H1 H5 := (k3.trans s4.keep).trans k5
          walk_at "xxZ"
          refine s_cut (fun σ H' => σ = [some (.ref h), some (.ref a), some (.int (p' : Int)), some (.bl more), some (.ref D), some (.ref r5), some (.int (e : Int)), some (x)] ∧ Keep h H1 H' ∧ HandAt H' h d ∧ H' r5 = some (.lst [.ref u5, .int (dd : Int)]) ∧ H' u5 = some (.lst (ws.map V.str)) ∧ H' D = some (.lst ((if wsi = [] then [] else seps o wsi ++ [jw o]).map V.str)) ∧ TK H5 H') ?_ (fun σ H6 p6 => ?_)
          · walk_at "xxZ"
            refine b_lenL (lst_of eD5) ?_
            rw [List.length_map]
            walk_at "xxZ"
            refine iteD (fun hg => ?_) (fun hg => ?_)
            · have ne : wsi ≠ [] := fun z => by
                rw [z] at hg
                simp [seps] at hg
              walk_at "xxZ"
              refine m_ty (lst_of eD5) ?_
              walk_at "xxZ"
              refine m_app eD5 (big1 (by rw [List.length_map]; omega)) fun H6 c6 e6 => ?_
              refine ⟨rfl, k35.chg c6 fD, hh5.chg c6 nD.symm (hh1.new fD).2, c6.at e5 nr5, c6.at f5 nu5, ?_, c6.tk eD5⟩
              rw [e6, if_neg ne]
              simp
            · have em : wsi = [] := (seps_nil dr3).mp (by omega)
              walk_at "xxZ"
              refine ⟨rfl, k35, hh5, e5, f5, ?_, fun _ _ e => e⟩
              rw [eD5, em]
              rfl
          · obtain ⟨rfl, k6, hh6, e6, f6, eD6, tk6⟩ := p6
            have key : seps o (wsi ++ [ws]) = (if wsi = [] then [] else seps o wsi ++ [jw o]) ++ ws := by
              by_cases hz : wsi = []
              · rw [if_pos hz, hz]
                rfl
              · rw [if_neg hz, seps_snoc o ws hz]
                simp
            have len : (seps o (wsi ++ [ws])).length ≤ wqs (cs.take i) + (wq c + 21) := by
              rw [key, List.length_append]
              split
              · rw [List.length_nil]
                omega
              · rw [List.length_append, List.length_singleton]
                omega
            walk_at "xxZ"
            refine o_addL eD6 f6 (Nat.le_of_lt (big1 (by
              rw [← List.length_append, ← List.map_append, ← key, List.length_map]
              omega))) fun D7 H7 n7 s7 e7 => ?_
            rw [← List.map_append, ← key] at e7
            have e6' := s7 _ _ e6
            have nh7 := (hh6.new n7).1.symm
            have dn := drs_snoc dr5 hq dr3
            rw [← tk] at dn
            have fin : ∀ e' : Nat, e' = max e dd → ∃ z5 z7 D wsj, ∃ e'' : Nat, ([some (.ref h), some (.ref a), some (.int (p' : Int)), some (.bl more), some (.ref D7), some (.ref r5), some (.int (e' : Int)), some (x)] : L2.St) = [some (.ref h), some (.ref a), some (.int (p' : Int)), some (.bl more), some (.ref D), z5, some (.int (e'' : Int)), z7] ∧ Keep h H1 H7 ∧ HandAt H7 h d ∧ D ≠ h ∧ H1 D = none ∧ H7 D = some (.lst ((seps o wsj).map V.str)) ∧ DrAll o (cs.take (i + 1)) wsj e'' ∧ (more = false → wsj = wsC o (cs.take (i + 1)) ∧ e'' = dsC o (cs.take (i + 1))) ∧ (seps o wsj).length ≤ wqs (cs.take (i + 1)) :=
              fun e' he => ⟨_, _, D7, wsi ++ [ws], e', rfl, k6.trans s7.keep, hh6.same s7, nh7, k6.free n7 nh7, e7, by rw [he]; exact dn, fun hm => by
                obtain ⟨m7, m8⟩ := m3 hm
                obtain ⟨m9, m10⟩ := m5 hm
                rw [tk, wsC_snoc, dsC_snoc, m7, he, m8, m9, m10, pw_wrap]
                exact ⟨rfl, by rw [Nat.add_comm (dC c)]⟩, by rw [tk, wqs_snoc]; exact len⟩
            walk_at "xxZ"
            refine iteD (fun hg => ?_) (fun hg => ?_)
            · walk_at "xxZ"
              exact fin dd (by omega)
            · walk_at "xxZ"
              exact fin e (by omega)
        · obtain ⟨z5, z7, D, wsi, e, rfl, k3, hh3, nD, fD, e3, dr3, m3, l3⟩ := p3
          rw [lus, List.take_length] at dr3 m3 l3
          walk_at "xxZ"
          rename_i p7 H7 n7 s7 e7
          refine o_rep e7 (by omega) fun p8 H8 n8 s8 e8 => ?_
          walk_at "xxZ"
          refine o_addL e8 ((s7.trans s8) _ _ e3) (Nat.le_of_lt (big1 (by simp only [List.length_map, List.length_append, List.length_replicate, List.length_cons, List.length_nil]; omega))) fun p9 H9 n9 s9 e9 => ?_
          walk_at "xxZ"
          rename_i p10 H10 n10 s10 e10
          refine o_rep e10 (by omega) fun p11 H11 n11 s11 e11 => ?_
          refine o_addL ((s10.trans s11) _ _ e9) e11 (Nat.le_of_lt (big1 (by simp only [List.length_map, List.length_append, List.length_replicate, List.length_cons, List.length_nil]; omega))) fun p12 H12 n12 s12 e12 => ?_
          have e12 : H12 p12 = some (.lst ((pw p' (seps o wsi)).map V.str)) := by
            rw [e12]
            simp [pw]
          walk_at "xxZ"
          rename_i p13 H13 n13 s13 e13
          have S11 := s7.trans (s8.trans (s9.trans (s10.trans s11)))
          have S12 := S11.trans s12
          refine q p13 p12 H13 _ (p' + e) p' (k1.trans (k3.trans (S12.trans s13).keep)) (hh3.same (S12.trans s13)) ((k1.trans (k3.trans S12.keep)).free n13 ((hh3.same S12).new n13).1.symm) ((k1.trans (k3.trans S11.keep)).free n12 ((hh3.same S11).new n12).1.symm) (by rw [e13, Int.natCast_add]) (s13 _ _ e12) (dr_pw (.jn ok.1 dr3) p') pp pm (fun hm => ?_) ?_
          · obtain ⟨m4, m5⟩ := m3 hm
            rw [pf hm, wC, dC, m4, m5]
            exact ⟨rfl, rfl⟩
          · rw [pw_len, wq]
            omega
end
end K03
namespace K03
open PySem PySem.Spec PyProof.Rows L2 Wy WM W3 W4 W5 W7 W8 W9 W10 W6 WN
/-! ### depth of what is read -/
theorem dok_tup {n : Nat} {ds : List PyData} (h : ds.length ≤ 20000) (k : ∀ x ∈ ds, DOk n x) : DOk (n + 1) (.tuple ds) := ⟨h, k⟩
theorem dok_pos : ∀ {n : Nat} {d : PyData}, DOk n d → 0 < n
  | 0, _, h => h.elim
  | n + 1, _, _ => Nat.succ_pos n
theorem dok_mono : ∀ {n m : Nat} {d : PyData}, DOk n d → n ≤ m → DOk m d
  | 0, _, _, h, _ => h.elim
  | n + 1, 0, _, _, h => absurd h (by omega)
  | n + 1, m + 1, d, h, k => by
    cases d with
    | tuple ds => exact ⟨h.1, fun x hx => dok_mono (h.2 x hx) (by omega)⟩
    | none => trivial
    | int _ => trivial
    | str _ => trivial
    | bool _ => exact h
    | list _ => exact h
    | dict _ => exact h
theorem dok_flat {e : Ex} (h : dep e = 0) : DOk 2 e.d := by
  cases e with
  | num n =>
    refine dok_tup (by show 2 ≤ 20000; omega) fun x hx => ?_
    simp only [List.mem_cons, List.not_mem_nil, or_false] at hx
    rcases hx with rfl | rfl <;> trivial
  | var y p =>
    refine dok_tup (by show 3 ≤ 20000; omega) fun x hx => ?_
    simp only [List.mem_cons, List.not_mem_nil, or_false] at hx
    rcases hx with rfl | rfl | rfl <;> trivial
  | item y i p => cases h
theorem dok_dep {e : Ex} (h : dep e ≤ 1) : DOk 3 e.d := by
  cases e with
  | num n =>
    refine dok_tup (by show 2 ≤ 20000; omega) fun x hx => ?_
    simp only [List.mem_cons, List.not_mem_nil, or_false] at hx
    rcases hx with rfl | rfl <;> trivial
  | var y p =>
    refine dok_tup (by show 3 ≤ 20000; omega) fun x hx => ?_
    simp only [List.mem_cons, List.not_mem_nil, or_false] at hx
    rcases hx with rfl | rfl | rfl <;> trivial
  | item y i p =>
    have hi : dep i = 0 := by
      have : dep i + 1 ≤ 1 := h
      omega
    refine dok_tup (by show 4 ≤ 20000; omega) fun x hx => ?_
    simp only [List.mem_cons, List.not_mem_nil, or_false] at hx
    rcases hx with rfl | rfl | rfl | rfl
    · trivial
    · trivial
    · exact dok_flat hi
    · trivial
theorem takePlain_dep {ws : List Str} {i j : Nat} {e : Ex} (h : takePlain ws i = some (e, j)) : dep e = 0 := by
  unfold takePlain at h
  split at h
  · split at h
    · cases h
    · cases h
      rfl
  · split at h
    · cases h
    · cases h
      rfl
theorem takeExpr_dep {ws : List Str} {i j : Nat} {e : Ex} (h : takeExpr ws i = some (e, j)) : dep e ≤ 1 := by
  unfold takeExpr at h
  split at h
  · split at h
    · cases h
    · rename_i x k hx
      split at h
      · split at h
        · cases h
        · cases h
          have := takePlain_dep hx
          show dep x + 1 ≤ 1
          omega
      · cases h
  · have := takePlain_dep h
    omega
theorem dok_cmp {s : Str} {l r : Ex} (hl : dep l ≤ 1) (hr : dep r ≤ 1) : DOk 4 (Cd.cmp s l r).d := by
  rw [Cd.d]
  refine dok_tup (by show 4 ≤ 20000; omega) fun x hx => ?_
  simp only [List.mem_cons, List.not_mem_nil, or_false] at hx
  rcases hx with rfl | rfl | rfl | rfl
  · trivial
  · trivial
  · exact dok_dep hl
  · exact dok_dep hr
theorem dok_no {n : Nat} {c : Cd} (h : DOk n c.d) : DOk (n + 1) (Cd.no c).d := by
  rw [Cd.d]
  refine dok_tup (by show 2 ≤ 20000; omega) fun x hx => ?_
  simp only [List.mem_cons, List.not_mem_nil, or_false] at hx
  rcases hx with rfl | rfl
  · obtain ⟨m, rfl⟩ : ∃ m, n = m + 1 := ⟨n - 1, by have := dok_pos h; omega⟩
    trivial
  · exact h
theorem ds_mem {d : PyData} : ∀ {cs : List Cd}, d ∈ Cd.ds cs → ∃ c ∈ cs, d = c.d
  | [], h => by rw [Cd.ds] at h; cases h
  | c :: cs, h => by
    rw [Cd.ds] at h
    rcases List.mem_cons.mp h with h | h
    · exact ⟨c, List.mem_cons_self, h⟩
    · obtain ⟨c', h1, h2⟩ := ds_mem h
      exact ⟨c', List.mem_cons_of_mem _ h1, h2⟩
theorem dok_jn {n : Nat} {o : Bool} {cs : List Cd} (hn : 0 < n) (hl : cs.length ≤ 20000) (h : ∀ c ∈ cs, DOk n c.d) : DOk (n + 2) (Cd.jn o cs).d := by
  rw [Cd.d]
  refine dok_tup (by show 2 ≤ 20000; omega) fun x hx => ?_
  simp only [List.mem_cons, List.not_mem_nil, or_false] at hx
  rcases hx with rfl | rfl
  · trivial
  · refine dok_tup (by rw [ds_len]; exact hl) fun x hx => ?_
    obtain ⟨c, hc, rfl⟩ := ds_mem hx
    exact h c hc
theorem loop_ok {ws : List Str} {take : Nat → Option (Cd × Nat)} {word : Str} {m : Nat} (ht : ∀ i c j, take i = some (c, j) → DOk m c.d) : ∀ {f i k : Nat} {cs : List Cd}, loopJ ws take word f i = some (cs, k) → cs.length ≤ f ∧ ∀ c ∈ cs, DOk m c.d
  | 0, _, _, _, h => by cases h
  | f + 1, i, k, cs, h => by
    unfold loopJ at h
    cases e : take i with
    | none =>
      rw [e] at h
      cases h
    | some r =>
      obtain ⟨c, j⟩ := r
      rw [e] at h
      have h : (if wordAt ws j = word then (match loopJ ws take word f (j + 1) with | none => none | some (cs, k) => some (c :: cs, k)) else some ([c], j)) = some (cs, k) := h
      split at h
      · cases e2 : loopJ ws take word f (j + 1) with
        | none =>
          rw [e2] at h
          cases h
        | some r2 =>
          obtain ⟨cs2, k2⟩ := r2
          rw [e2] at h
          cases h
          obtain ⟨a, b⟩ := loop_ok ht e2
          refine ⟨by rw [List.length_cons]; omega, fun x hx => ?_⟩
          rcases List.mem_cons.mp hx with rfl | hx
          · exact ht _ _ _ e
          · exact b x hx
      · cases h
        refine ⟨by rw [List.length_singleton]; omega, fun x hx => ?_⟩
        rw [List.mem_singleton.mp hx]
        exact ht _ _ _ e
theorem takeJ_ok {ws : List Str} {take : Nat → Option (Cd × Nat)} {o : Bool} {m : Nat} (hm : 0 < m) (hw : ws.length ≤ 10000) (ht : ∀ i c j, take i = some (c, j) → DOk m c.d) {i j : Nat} {c : Cd} (h : takeJ ws take o i = some (c, j)) : DOk (m + 2) c.d := by
  unfold takeJ at h
  cases e : loopJ ws take (jw o) (ws.length + 1) i with
  | none =>
    rw [e] at h
    cases h
  | some r =>
    obtain ⟨cs, k⟩ := r
    rw [e] at h
    have h : some (joinOf o cs, k) = some (c, j) := h
    cases h
    obtain ⟨a, b⟩ := loop_ok ht e
    unfold joinOf
    split
    · rename_i c'
      exact dok_mono (b c' List.mem_cons_self) (by omega)
    · exact dok_jn hm (by omega) b
theorem takeCmp_ok {ws : List Str} {i j : Nat} {c : Cd} (h : takeCmp ws i = some (c, j)) : DOk 4 c.d := by
  unfold takeCmp at h
  cases e : takeExpr ws i with
  | none =>
    rw [e] at h
    cases h
  | some r =>
    obtain ⟨l, k⟩ := r
    rw [e] at h
    have h : (if wordAt ws k ∈ SIG then (match takeExpr ws (k + 1) with | none => none | some (r, m) => some (Cd.cmp (wordAt ws k) l r, m)) else none) = some (c, j) := h
    split at h
    · cases e2 : takeExpr ws (k + 1) with
      | none =>
        rw [e2] at h
        cases h
      | some r2 =>
        obtain ⟨r, m⟩ := r2
        rw [e2] at h
        cases h
        exact dok_cmp (takeExpr_dep e) (takeExpr_dep e2)
    · cases h
theorem opnd_ok {ws : List Str} (hw : ws.length ≤ 10000) : ∀ {n i j : Nat} {c : Cd}, opnd ws n i = some (c, j) → DOk (4 * n + 4) c.d
  | 0, i, j, c, h => by
    unfold opnd at h
    split at h
    · cases h
    · exact takeCmp_ok h
  | n + 1, i, j, c, h => by
    have ih : ∀ i c j, opnd ws n i = some (c, j) → DOk (4 * n + 4) c.d := fun i c j h => opnd_ok hw h
    unfold opnd at h
    split at h
    · cases e : opnd ws n (i + 1) with
      | none =>
        rw [e] at h
        cases h
      | some r =>
        rw [e] at h
        have h : some (Cd.no r.1, r.2) = some (c, j) := h
        cases h
        exact dok_mono (dok_no (ih _ r.1 r.2 e)) (by omega)
    · split at h
      · cases e : takeJ ws (takeJ ws (opnd ws n) false) true (i + 1) with
        | none =>
          rw [e] at h
          cases h
        | some r =>
          obtain ⟨c', k⟩ := r
          rw [e] at h
          have h : (if wordAt ws k = ")" then some (c', k + 1) else none) = some (c, j) := h
          split at h
          · cases h
            exact dok_mono (takeJ_ok (by omega) hw (fun i c j h => takeJ_ok (by omega) hw ih h) e) (by omega)
          · cases h
      · exact dok_mono (takeCmp_ok h) (by omega)
theorem dok_read {ws : List Str} (hw : ws.length ≤ 10000) : DOk 40 (oC (readC ws)) := by
  unfold readC
  cases e : takeOr ws 8 0 with
  | none => trivial
  | some r =>
    obtain ⟨c, j⟩ := r
    show DOk 40 (oC (if j = ws.length then some c else none))
    split
    · exact takeJ_ok (m := 38) (by omega) hw (fun i c j h => takeJ_ok (m := 36) (by omega) hw (fun i c j h => opnd_ok hw (n := 8) h) h) e
    · trivial
/-! ### the words of what is dressed -/
theorem plusW_ok {p : Int} (h : p.natAbs < 10 ^ 10) : ∀ y ∈ plusW p, Tok y ∧ y.length ≤ 13 := by
  unfold plusW
  split
  · intro y hy
    cases hy
  · intro y hy
    simp only [List.mem_cons, List.not_mem_nil, or_false] at hy
    rcases hy with rfl | rfl
    · split
      · exact ⟨tok_sho (c := 43) (by decide +kernel) (by decide +kernel), by decide +kernel⟩
      · exact ⟨tok_sho (c := 45) (by decide +kernel) (by decide +kernel), by decide +kernel⟩
    · exact ⟨tok_num _, by have := numS_len10 h; omega⟩
theorem plain_ok {e : Ex} (h : Plain e) : ∀ y ∈ wordsE e, Tok y ∧ y.length ≤ 13 := by
  cases e with
  | num n =>
    have hn : n.natAbs < 10 ^ 10 := h
    show ∀ y ∈ (if n < 0 then _ else _ : List Str), _
    split
    · intro y hy
      simp only [List.mem_cons, List.not_mem_nil, or_false] at hy
      rcases hy with rfl | rfl
      · exact ⟨tok_sho (c := 45) (by decide +kernel) (by decide +kernel), by decide +kernel⟩
      · exact ⟨tok_num _, by have := numS_len10 (n := (-n).toNat) (by omega); omega⟩
    · intro y hy
      rw [List.mem_singleton.mp hy]
      exact ⟨tok_num _, by have := numS_len10 (n := n.toNat) (by omega); omega⟩
  | var x p =>
    intro y hy
    rcases List.mem_cons.mp hy with rfl | hy
    · exact ⟨tok_name h.1, by have := (name_parts h.1).2.1; omega⟩
    · exact plusW_ok h.2 y hy
  | item x i p => exact h.elim
theorem good_ok {e : Ex} (h : Good e) : ∀ y ∈ wordsE e, Tok y ∧ y.length ≤ 13 := by
  cases e with
  | num n => exact plain_ok (e := .num n) h
  | var x p => exact plain_ok (e := .var x p) h
  | item x i p =>
    intro y hy
    have hy : y ∈ [x, ("[" : Str)] ++ wordsE i ++ [("]" : Str)] ++ plusW p := hy
    rcases List.mem_append.mp hy with hy | hy
    · rcases List.mem_append.mp hy with hy | hy
      · rcases List.mem_append.mp hy with hy | hy
        · simp only [List.mem_cons, List.not_mem_nil, or_false] at hy
          rcases hy with rfl | rfl
          · exact ⟨tok_name h.1, by have := (name_parts h.1).2.1; omega⟩
          · exact ⟨tok_sho (c := 91) (by decide +kernel) (by decide +kernel), by decide +kernel⟩
        · exact plain_ok h.2.1 y hy
      · rw [List.mem_singleton.mp hy]
        exact ⟨tok_sho (c := 93) (by decide +kernel) (by decide +kernel), by decide +kernel⟩
    · exact plusW_ok h.2.2 y hy
def WT1 (w : List Str) : Prop := ∀ y ∈ w, Tok y ∧ y.length ≤ 13
theorem jw_tok (o : Bool) : Tok (jw o) ∧ (jw o).length ≤ 13 := by
  cases o
  · exact ⟨tok_word (by decide +kernel), by decide +kernel⟩
  · exact ⟨tok_word (by decide +kernel), by decide +kernel⟩
theorem wt_seps {o : Bool} : ∀ {ws : List (List Str)}, (∀ w ∈ ws, WT1 w) → WT1 (seps o ws)
  | [], _ => fun _ h => by cases h
  | [w], h => h w List.mem_cons_self
  | w :: v :: r, h => fun y hy => by
    have hy : y ∈ w ++ (jw o :: seps o (v :: r)) := hy
    rcases List.mem_append.mp hy with hy | hy
    · exact h w List.mem_cons_self y hy
    · rcases List.mem_cons.mp hy with rfl | hy
      · exact jw_tok o
      · exact wt_seps (fun w hw => h w (List.mem_cons_of_mem _ hw)) y hy
theorem dr_ok {c : Cd} {p : Nat} {w : List Str} {d : Nat} (h : Dr c p w d) : WT1 w :=
  Dr.rec (motive_1 := fun c p w d _ => WT1 w) (motive_2 := fun o cs ws d _ => ∀ w ∈ ws, WT1 w)
    (fun _ hr y hy => by
      rcases List.mem_cons.mp hy with rfl | hy
      · exact ⟨tok_sho (c := 40) (by decide +kernel) (by decide +kernel), by decide +kernel⟩
      · rcases List.mem_append.mp hy with hy | hy
        · exact hr y hy
        · rw [List.mem_singleton.mp hy]
          exact ⟨tok_sho (c := 41) (by decide +kernel) (by decide +kernel), by decide +kernel⟩)
    (fun hs gl gr y hy => by
      rcases List.mem_append.mp hy with hy | hy
      · exact good_ok gl y hy
      · rcases List.mem_cons.mp hy with rfl | hy
        · exact ⟨tok_sig hs, by have := sig_len hs; omega⟩
        · exact good_ok gr y hy)
    (fun _ _ hr y hy => by
      rcases List.mem_cons.mp hy with rfl | hy
      · exact ⟨tok_word (by decide +kernel), by decide +kernel⟩
      · exact hr y hy)
    (fun _ _ hm => wt_seps hm) (fun _ h => by cases h) (fun _ _ _ h1 h2 w hw => by
      rcases List.mem_cons.mp hw with rfl | hw
      · exact h1
      · exact h2 w hw) h
/-! ### a foreign sign -/
def OKD (c : Nat) : Prop := OKC c ∨ c ∈ EQS
theorem lex_bad2 : ∀ {k : Nat} {l : List Nat}, l.length ≤ k → (∃ c ∈ l, ¬ OKD c) → lexL l = none
  | 0, l, h, ⟨c, hc, _⟩ => by
    have e : l = [] := List.length_eq_zero_iff.mp (by omega)
    rw [e] at hc
    cases hc
  | k + 1, [], _, ⟨c, hc, _⟩ => by cases hc
  | k + 1, c :: r, h, ⟨b, hb, nb⟩ => by
    rw [List.length_cons] at h
    by_cases hs : c = 32
    · rw [hs, lexL_space]
      refine lex_bad2 (k := k) (by omega) ?_
      rcases List.mem_cons.mp hb with e | hb
      · exact absurd (.inl (.inr (.inr (.inr (e.trans hs))))) nb
      · exact ⟨b, hb, nb⟩
    · rw [lexL_word hs]
      split
      · rfl
      · rename_i hw
        have hok : ∀ d ∈ (c :: r).take (wordLen (c :: r)), OKD d := by
          have tw : ∀ (p : List Nat) (n : Nat), n = 1 + (r.takeWhile fun d => decide (d ∈ p)).length → c ∈ p → ∀ d ∈ (c :: r).take n, d ∈ p := fun p n hn hc d hd => by
            rw [hn, Nat.add_comm, List.take_succ_cons] at hd
            rcases List.mem_cons.mp hd with e | hd
            · rw [e]
              exact hc
            · have e : r.take (r.takeWhile fun d => decide (d ∈ p)).length = r.takeWhile fun d => decide (d ∈ p) := by
                have := List.takeWhile_prefix (fun d => decide (d ∈ p)) (l := r)
                exact (List.prefix_iff_eq_take.mp this).symm
              rw [e] at hd
              simpa using tw_mem hd
          rw [wordLen_cons]
          intro d hd
          split at hd
          · rename_i h1
            exact .inl (.inl (tw _ _ rfl h1 d hd))
          · split at hd
            · rename_i h1
              exact .inl (.inr (.inl (tw _ _ rfl h1 d hd)))
            · split at hd
              · rename_i h1
                cases r with
                | nil => simp at h1
                | cons x r =>
                  have hx : x = 61 := by simpa using h1.1
                  have hd : d = c ∨ d = x := by simpa using hd
                  rcases hd with rfl | rfl
                  · exact .inr h1.2
                  · rw [hx]
                    exact .inr (by decide)
              · split at hd
                · rename_i h1
                  have e : d = c := by simpa using hd
                  exact .inl (.inr (.inr (.inl (e ▸ h1))))
                · cases hd
        have hd : ((c :: r).drop (wordLen (c :: r))).length ≤ k := by
          rw [List.length_drop, List.length_cons]
          omega
        rw [lex_bad2 hd ?_]
        · rfl
        · rw [← List.take_append_drop (wordLen (c :: r)) (c :: r)] at hb
          rcases List.mem_append.mp hb with hb | hb
          · exact absurd (hok b hb) nb
          · exact ⟨b, hb, nb⟩
theorem words_bad2 {z : Str} (b : ∃ c ∈ tl z, ¬ OKD c) : wordsW z = none := by
  rw [words_lex, lex_bad2 (Nat.le_refl _) b]
  rfl
def forB (x : V) : Bool := match x with
  | .str y => match tl y with | [c] => !(decide (c ∈ tl LET) || decide (c ∈ tl DIG) || decide (c ∈ tl SHO) || decide (c = 32) || decide (c ∈ EQS)) | _ => false
  | _ => false
theorem for_item {xs : List V} (h : xs.all forB = true) {j : Nat} (hj : j < xs.length) : ∃ (y : Str) (c : Nat), xs[j]? = some (.str y) ∧ tl y = [c] ∧ ¬ OKD c := by
  have h1 := List.all_eq_true.mp h xs[j] (List.getElem_mem hj)
  cases e : xs[j] with
  | str y =>
    rw [e] at h1
    have h1 : (match tl y with | [c] => !(decide (c ∈ tl LET) || decide (c ∈ tl DIG) || decide (c ∈ tl SHO) || decide (c = 32) || decide (c ∈ EQS)) | _ => false) = true := h1
    split at h1
    · rename_i c ec
      simp only [Bool.not_eq_true', Bool.or_eq_false_iff, decide_eq_false_iff_not] at h1
      refine ⟨y, c, by rw [List.getElem?_eq_getElem hj, e], ec, fun h => ?_⟩
      rcases h with (h | h | h | h) | h
      · exact h1.1.1.1.1 h
      · exact h1.1.1.1.2 h
      · exact h1.1.1.2 h
      · exact h1.1.2 h
      · exact h1.2 h
    · cases h1
  | _ =>
    rw [e] at h1
    cases h1
theorem cutS_take (z : Str) (j : Nat) : tl (cutS z none (some (j : Int))) = (tl z).take j := by
  unfold cutS
  rw [HT.sIx_none, HT.sIx_nat]
  show (((z.cps.toList.drop 0).take (min j z.length - 0)).toArray).toList = z.cps.toList.take j
  rw [List.drop_zero, Nat.sub_zero]
  by_cases h : j ≤ z.length
  · rw [Nat.min_eq_left h]
  · have hl := str_len z
    rw [Nat.min_eq_right (by omega), List.take_of_length_le (by omega), List.take_of_length_le (by omega)]
theorem cutS_drop (z : Str) (j : Nat) : tl (cutS z (some (j : Int)) none) = (tl z).drop j := by
  unfold cutS
  rw [HT.sIx_none, HT.sIx_nat]
  show (((z.cps.toList.drop (min j z.length)).take (z.length - min j z.length)).toArray).toList = z.cps.toList.drop j
  have hl := str_len z
  by_cases h : j ≤ z.length
  · rw [Nat.min_eq_left h, List.take_of_length_le (by rw [List.length_drop]; omega)]
  · rw [Nat.min_eq_right (by omega), Nat.sub_self, List.take_zero, List.drop_of_length_le (by omega)]
/-! ### nots in a row -/
def nots : Nat → Cd → Cd
  | 0, c => c
  | k + 1, c => .no (nots k c)
theorem nots_in (k : Nat) {s : Str} {l r : Ex} : okIn false (nots k (.cmp s l r)) := by
  cases k <;> exact True.intro
theorem dr_nots {s : Str} {l r : Ex} (h : okC (.cmp s l r)) : ∀ k : Nat, Dr (nots k (.cmp s l r)) 0 (List.replicate k ("not" : Str) ++ wC (.cmp s l r)) k
  | 0 => by
    have := dr_plain h
    rw [dC] at this
    exact this
  | k + 1 => by
    rw [List.replicate_succ, List.cons_append]
    exact .no (dr_nots h k) (.inr (nots_in k))
def notS : Nat → Str → Str
  | 0, z => z
  | k + 1, z => ("not" : Str) ++ (" " : Str) ++ notS k z
theorem to_nots {z : Str} {w : List Str} (h : TextOf z w) : ∀ k : Nat, TextOf (notS k z) (List.replicate k ("not" : Str) ++ w)
  | 0 => h
  | k + 1 => by
    rw [List.replicate_succ, List.cons_append]
    exact to_sp (to_tok (tok_word (s := ("not" : Str)) (by decide +kernel))) (to_nots h k)
theorem notS_rep (z : Str) : ∀ k : Nat, repS ("not " : Str) (k : Int) ++ z = notS k z
  | 0 => TL.ext_tl (by show tl (repS ("not " : Str) 0 ++ z) = tl z; rw [tl_app]; rfl)
  | k + 1 => by
    refine TL.ext_tl ?_
    have ih := congrArg tl (notS_rep z k)
    show tl (repS ("not " : Str) ((k + 1 : Nat) : Int) ++ z) = tl (("not" : Str) ++ (" " : Str) ++ notS k z)
    rw [tl_app] at ih ⊢
    rw [tl_app, tl_app, ← ih]
    have e1 : ∀ m : Nat, tl (repS ("not " : Str) (m : Int)) = (List.replicate m (tl ("not " : Str))).flatten := fun m => by
      show (List.replicate (m : Int).toNat (Str.ofString "not ").cps.toList).flatten.toArray.toList = _
      rw [Int.toNat_natCast]
    rw [e1, e1, List.replicate_succ, List.flatten_cons]
    have e2 : tl ("not " : Str) = tl ("not" : Str) ++ tl (" " : Str) := by decide +kernel
    rw [e2, List.append_assoc]
end K03
namespace K03
open PySem PySem.Spec PyProof.Rows L2 Wy WM W3 W4 W5 W7 W8 W9 W10 W6 WN

-- WIDE
-- REC _law_tree 6
-- REC _law_condition_text 6
-- REC _law_dressed 6
-- REC _law_same 40
-- CUTIF law := len(words) == 0
theorem decS (x : Str) : (!decide (V.str x = V.str x)) = false := by rw [decide_eq_true rfl]; rfl
theorem small_ws {n : Nat} {ws : List Str} (h : WOk n ws) (hn : n ≤ 8100) {z : Str} (hz : wordsW z = some ws) : ∀ ws', wordsW z = some ws' → SmallW ws' := fun ws' h' => by
  rw [hz] at h'
  cases h'
  exact h.small (by omega)
theorem none_ws {z : Str} (hz : wordsW z = none) : ∀ ws', wordsW z = some ws' → SmallW ws' := fun ws' h' => by
  rw [hz] at h'
  cases h'
theorem readT_of {z : Str} {ws : List Str} (hz : wordsW z = some ws) : readT z = readC ws := by
  unfold readT
  rw [hz]
theorem wok_of {c : Cd} {p : Nat} {w : List Str} {d : Nat} (h : Dr c p w d) {n : Nat} (hl : w.length ≤ n) : WOk n w := ⟨hl, fun y hy => (dr_ok h y hy).1, fun y hy => (dr_ok h y hy).2⟩
theorem oC_due {H : Hp} {v : V} {c : Cd} {ws : List Str} {d : Nat} (t : Tp H v c.d) (e : readC ws = if d ≤ 8 then some c else none) : Tp H (if d ≤ 8 then v else .non) (oC (readC ws)) := by
  rw [e]
  split
  · exact t
  · exact .non
section
variable {P : Program} {w : World} {K : PySem.W.Frag} {mg : Str → Option Value} {base : Heap}
theorem ok_law (T : Tx w K mg) {f : Addr} {fd : FuncData} (F : FunD K "law" "law" (defArgs s_law) (defBody s_law) (defScope s_law) [] [] f fd) : FnOk P w K mg base CX0 41 f fd ["script"] (spLaw K) := by
  refine fn_of2 (N := n_law) F sc_law (fun vs H Q E h => ?_) (fun f cdv A outer s H vs Q E hr h => ?_)
  · obtain ⟨a, ns, rfl, _⟩ := h
    rfl
  · obtain ⟨a, ns, rfl, hS, hl, q⟩ := h
    refine ⟨_, (pss_cons (ps_asg (pe_lst (pa_cons (C8.pe_c (k_law_draws T) hr (by first | decide | omega) (by rfl) (pa_cons (pv 0) (pa_cons pe_int pa_nil))) (pa_cons pe_int pa_nil))) (pg_name (i := 1) sc_law.nd rfl (Or.inl rfl))) (pss_cons (ps_asg (C8.pe_c (k_law_tree T 6) hr (by first | decide | omega) (by rfl) (pa_cons (pv 1) (pa_cons (pe_op op_add3 pe_int (C8.pe_c (k_law_take T) hr (by first | decide | omega) (by rfl) (pa_cons (pv 1) (pa_cons pe_int pa_nil)))) (pa_cons pe_int pa_nil)))) (pg_name (i := 2) sc_law.nd rfl (Or.inl rfl))) (pss_cons (ps_asg (C8.pe_c (k_law_condition_text T 6) hr (by first | decide | omega) (by rfl) (pa_cons (pv 2) pa_nil)) (pg_name (i := 3) sc_law.nd rfl (Or.inl rfl))) (pss_cons (ps_asg (C8.pe_c (k_write_condition T) hr (by first | decide | omega) (by rfl) (pa_cons (pv 2) pa_nil)) (pg_name (i := 4) sc_law.nd rfl (Or.inl rfl))) (pss_cons (ps_asg (C8.pe_c (k_law_dressed T 6) hr (by first | decide | omega) (by rfl) (pa_cons (pv 1) (pa_cons (pv 2) (pa_cons pe_int (pa_cons pe_bl pa_nil))))) (pg_name (i := 5) sc_law.nd rfl (Or.inl rfl))) (pss_cons (ps_if (PW.pt (pw_or (pt_not (pt_tr (pe_callB (call_isi2 : CallR _ _ (rIsi2 K)) (by rfl) T.z_isinstance (by decide +kernel) (pa_cons (pv 4) (pa_cons (pe_bltn (v := .ty "str") (by rfl) T.z_str (by decide +kernel) rfl) pa_nil))) : PT _ _ (tTr K _))) (pw_or1 (pt_cmpR (op_ne2 hr.units : OpR _ _ (rNe2 K)) (pv 4) (pv 3) (nomark _))))) (pss_one (ps_ret pe_bl)) pss_nil) (pss_cons (ps_asg (pv 2) (pg_name (i := 6) sc_law.nd rfl (Or.inl rfl))) (C8.pss_cut (ps_if (pt_cmpR op_gt (pe_ix (ix_seq : IxR _ (rIx K)) (pv 5) pe_int (fun _ _ => rfl)) pe_int (nomark _)) (pss_one (ps_asg pe_non (pg_name (i := 6) sc_law.nd rfl (Or.inl rfl)))) pss_nil) (pss_cons (ps_if (PW.pt (pw_or (pt_not (pt_tr (C8.pe_c (k_law_same T 40) hr (by first | decide | omega) (by rfl) (pa_cons (C8.pe_c (k_read_condition T) hr (by first | decide | omega) (by rfl) (pa_cons (pv 3) pa_nil)) (pa_cons (pv 6) pa_nil))) : PT _ _ (tTr K _))) (pw_or1 (pt_not (pt_tr (C8.pe_c (k_law_same T 40) hr (by first | decide | omega) (by rfl) (pa_cons (C8.pe_c (k_read_condition T) hr (by first | decide | omega) (by rfl) (pa_cons (C8.pe_c (k_law_spaced T) hr (by first | decide | omega) (by rfl) (pa_cons (pv 1) (pa_cons (pe_ix (ix_seq : IxR _ (rIx K)) (pv 5) pe_int (fun _ _ => rfl)) pa_nil))) pa_nil)) (pa_cons (pv 6) pa_nil))) : PT _ _ (tTr K _)))))) (pss_one (ps_ret pe_bl)) pss_nil) (pss_cons (ps_asg (C8.pe_c (k_law_dressed T 6) hr (by first | decide | omega) (by rfl) (pa_cons (pv 1) (pa_cons (pv 2) (pa_cons (C8.pe_c (k_law_many T) hr (by first | decide | omega) (by rfl) (pa_cons (pv 1) pa_nil)) (pa_cons pe_bl pa_nil))))) (pg_name (i := 7) sc_law.nd rfl (Or.inl rfl))) (pss_cons (ps_asg (pv 2) (pg_name (i := 6) sc_law.nd rfl (Or.inl rfl))) (C8.pss_cut (ps_if (pt_cmpR op_gt (pe_ix (ix_seq : IxR _ (rIx K)) (pv 7) pe_int (fun _ _ => rfl)) pe_int (nomark _)) (pss_one (ps_asg pe_non (pg_name (i := 6) sc_law.nd rfl (Or.inl rfl)))) pss_nil) (pss_cons (ps_if (pt_not (pt_tr (C8.pe_c (k_law_same T 40) hr (by first | decide | omega) (by rfl) (pa_cons (C8.pe_c (k_read_condition T) hr (by first | decide | omega) (by rfl) (pa_cons (C8.pe_c (k_law_spaced T) hr (by first | decide | omega) (by rfl) (pa_cons (pv 1) (pa_cons (pe_ix (ix_seq : IxR _ (rIx K)) (pv 7) pe_int (fun _ _ => rfl)) pa_nil))) pa_nil)) (pa_cons (pv 6) pa_nil))) : PT _ _ (tTr K _))) (pss_one (ps_ret pe_bl)) pss_nil) (pss_cons (ps_asg (C8.pe_c (k_law_take T) hr (by first | decide | omega) (by rfl) (pa_cons (pv 1) (pa_cons (pe_op op_add3 (pe_callB (call_len2 : CallR _ _ (rLn K)) (by rfl) T.z_len (by decide +kernel) (pa_cons (pv 3) pa_nil)) pe_int) pa_nil))) (pg_name (i := 8) sc_law.nd rfl (Or.inl rfl))) (pss_cons (ps_asg (pe_ix (ix_seq : IxR _ (rIx K)) (pe_lst (pa_cons pe_str (pa_cons pe_str (pa_cons pe_str (pa_cons pe_str (pa_cons pe_str (pa_cons pe_str (pa_cons pe_str pa_nil)))))))) (C8.pe_c (k_law_take T) hr (by first | decide | omega) (by rfl) (pa_cons (pv 1) (pa_cons pe_int pa_nil))) (fun _ _ => rfl)) (pg_name (i := 9) sc_law.nd rfl (Or.inl rfl))) (pss_cons (ps_if (pt_cmpR op_ntN2 (C8.pe_c (k_read_condition T) hr (by first | decide | omega) (by rfl) (pa_cons (pe_op op_add3 (pe_op op_add3 (pe_slice (sl_2 : SlR _ (rSl2 K)) (pv 3) po_none (po_some (pv 8))) (pv 9)) (pe_slice (sl_2 : SlR _ (rSl2 K)) (pv 3) (po_some (pv 8)) po_none)) pa_nil)) pe_non (nomark _)) (pss_one (ps_ret pe_bl)) pss_nil) (pss_cons (ps_asg (pe_ix (ix_seq : IxR _ (rIx K)) (pv 7) pe_int (fun _ _ => rfl)) (pg_name (i := 10) sc_law.nd rfl (Or.inl rfl))) (pss_cons (ps_for PassesOwn.never rfl (pi_range1 (by rfl) T.z_range (pa_cons pe_int pa_nil)) (pg_name (i := 11) sc_law.nd rfl (Or.inl rfl)) (pss_cons (ps_asg (C8.pe_c (k_law_spoilt T) hr (by first | decide | omega) (by rfl) (pa_cons (pv 1) (pa_cons (pv 10) pa_nil))) (pg_name (i := 10) sc_law.nd rfl (Or.inl rfl))) (pss_cons (ps_if (pt_not (pt_tr (C8.pe_c (k_law_same T 40) hr (by first | decide | omega) (by rfl) (pa_cons (C8.pe_c (k_read_condition T) hr (by first | decide | omega) (by rfl) (pa_cons (C8.pe_c (k_law_spaced T) hr (by first | decide | omega) (by rfl) (pa_cons (pv 1) (pa_cons (pv 10) pa_nil))) pa_nil)) (pa_cons (C8.pe_c (k_law_read_condition T) hr (by first | decide | omega) (by rfl) (pa_cons (pv 10) pa_nil)) pa_nil))) : PT _ _ (tTr K _))) (pss_one (ps_ret pe_bl)) pss_nil) (pss_one (ps_if (pt_cmpR (op_eq2 hr.units : OpR _ _ (rEq2 K)) (pe_callB (call_len2 : CallR _ _ (rLn K)) (by rfl) T.z_len (by decide +kernel) (pa_cons (pv 10) pa_nil)) pe_int (nomark _)) (pss_one (ps_ret pe_bl)) pss_nil))))) (pss_cons (ps_asg (pv 2) (pg_name (i := 12) sc_law.nd rfl (Or.inl rfl))) (pss_cons (ps_asg (pe_op op_add3 pe_int (C8.pe_c (k_law_take T) hr (by first | decide | omega) (by rfl) (pa_cons (pv 1) (pa_cons pe_int pa_nil)))) (pg_name (i := 13) sc_law.nd rfl (Or.inl rfl))) (pss_cons (ps_for PassesOwn.never rfl (pi_range1 (by rfl) T.z_range (pa_cons (pv 13) pa_nil)) (pg_name (i := 11) sc_law.nd rfl (Or.inl rfl)) (pss_one (ps_asg (pe_tup (pa_cons pe_str (pa_cons (pv 12) pa_nil))) (pg_name (i := 12) sc_law.nd rfl (Or.inl rfl))))) (C8.pss_cut (ps_if (pt_cmpR (op_eq2 hr.units : OpR _ _ (rEq2 K)) (pe_ix (ix_seq : IxR _ (rIx K)) (pv 2) pe_int (fun _ _ => rfl)) pe_str (nomark _)) (pss_cons (ps_asg (pv 12) (pg_name (i := 6) sc_law.nd rfl (Or.inl rfl))) (C8.pss_cut (ps_if (pt_cmpR op_gt (pv 13) pe_int (nomark _)) (pss_one (ps_asg pe_non (pg_name (i := 6) sc_law.nd rfl (Or.inl rfl)))) pss_nil) (pss_one (ps_if (pt_not (pt_tr (C8.pe_c (k_law_same T 40) hr (by first | decide | omega) (by rfl) (pa_cons (C8.pe_c (k_read_condition T) hr (by first | decide | omega) (by rfl) (pa_cons (pe_op op_add3 (pe_op op_mul2 pe_str (pv 13)) (pv 3)) pa_nil)) (pa_cons (pv 6) pa_nil))) : PT _ _ (tTr K _))) (pss_one (ps_ret pe_bl)) pss_nil)))) pss_nil) (pss_one (ps_ret (pe_cmpR op_isN2 (C8.pe_c (k_read_condition T) hr (by first | decide | omega) (by rfl) (pa_cons pe_str pa_nil)) pe_non (nomark _)))))))))))))))))))))))))), ?_⟩
    walk_at "xxZ"
    refine ⟨a, ns, 700, rfl, hS, hl, by omega, by omega, fun d H1 ds s1 nd e1 => ?_⟩
    walk_at "xxZ"
    rename_i h H2 nh s2 e2
    have hh2 : HandAt H2 h d := ⟨0, ds, e2, Int.le_refl 0, s2 _ _ e1⟩
    clear s1 nd e1 nh s2 e2
    refine ⟨h, d, _, rfl, hh2, by omega, fun r H3 r0 r1 c3 hh3 => ?_⟩
    obtain ⟨n, hn⟩ : ∃ n : Nat, 1 + r = (n : Int) := ⟨(1 + r).toNat, by omega⟩
    walk_at "xxZ"
    refine ⟨h, d, n, 8, by rw [← hn]; rfl, hh3, by omega, by omega, fun v H4 c k4 hh4 t4 ok dpc wtc => ?_⟩
    have n5 : n ≤ 5 := by omega
    have wt1 : wt c ≤ 1920 := by omega
    have wq1 : wq c ≤ 7680 := by have := wq_wt c; omega
    clear c3 hh3 k4 hh2 wtc hn r0 r1
    walk_at "xxZ"
    refine ⟨v, c, n, rfl, t4, ok, dpc, by omega, by omega, fun H5 s5 => ?_⟩
    have t5 := Tp.tk s5.tk t4
    have hh5 := hh4.same s5
    walk_at "xxZ"
    refine ⟨v, c, n, rfl, t5, ok, dpc, by omega, by omega, fun H6 s6 => ?_⟩
    have t6 := Tp.tk s6.tk t5
    have hh6 := hh5.same s6
    walk_at "xxZ"
    refine ⟨h, d, v, c, n, 0, false, rfl, hh6, t6, ok, dpc, by omega, by omega, by omega, fun r7 u7 H7 ws dd p7 k7 hh7 nr7 nu7 e7 f7 dr7 _ le7 m7 lw7 => ?_⟩
    obtain ⟨ews, edd⟩ := m7 rfl
    have ews : ws = wC c := by
      rw [ews]
      simp [pw]
    rw [Nat.zero_add] at edd
    subst ews edd
    have t7 := Tp.tk (hh6.keep_tk k7) t6
    have wo7 : WOk 7700 (wC c) := wok_of dr7 (by omega)
    obtain ⟨tw, rd⟩ := read_text ok
    have ltx : (textC c).length ≤ 1920 := Nat.le_trans (text_len ok) wt1
    clear t4 t5 t6 hh4 hh5 hh6 s5 s6 k7 nr7 nu7 m7 lw7 le7
    walk_at "xxZ"
    refine iteFF (decS _) ?_
    walk_at "xxZ"
    refine s_cut (fun σ H' => σ = [some (.ref a), some (.ref h), some (v), some (.str (textC c)), some (.str (textC c)), some (.ref r7), some ((if dC c ≤ 8 then v else .non)), none, none, none, none, none, none, none] ∧ H7 = H') ?_ (fun σ H8 p8 => ?_)
    · walk_at "xxZ"
      refine iteD (fun e => ?_) (fun e => ?_)
      · walk_at "xxZ"
        refine ⟨?_, rfl⟩
        rw [if_neg (by omega)]
        rfl
      · walk_at "xxZ"
        refine ⟨?_, rfl⟩
        rw [if_pos (by omega)]
        rfl
    obtain ⟨rfl, rfl⟩ := p8
    have tdue := oC_due t7 rd
    generalize hu : (if dC c ≤ 8 then v else V.non) = due at *
    have dk : DOk 40 (oC (readC (wC c))) := dok_read (Nat.le_trans wo7.len (by decide))
    walk_at "xxZ"
    refine ⟨_, rfl, by omega, small_ws wo7 (by decide) tw, fun v8 H8 s8 t8 => ?_⟩
    rw [readT_of tw] at t8
    have hh8 := hh7.same s8
    walk_at "xxZ"
    refine ⟨v8, due, _, rfl, t8, Tp.tk s8.tk tdue, dk, ?_⟩
    walk_at "xxZ"
    have e8 := s8 _ _ e7
    have f8 := s8 _ _ f7
    walk_at "xxZ"
    refine ⟨h, d, u7, wC c, rfl, hh8, f8, ⟨Nat.le_trans wo7.len (by decide), wo7.tok, wo7.short⟩, fun z9 H9 wz9 lz9 k9 hh9 => ?_⟩
    have t9 := Tp.tk (hh8.keep_tk k9) (Tp.tk s8.tk t7)
    have td9 := Tp.tk (hh8.keep_tk k9) (Tp.tk s8.tk tdue)
    walk_at "xxZ"
    refine ⟨z9, rfl, by omega, small_ws wo7 (by decide) wz9, fun v10 H10 s10 t10 => ?_⟩
    rw [readT_of wz9] at t10
    walk_at "xxZ"
    refine ⟨v10, due, _, rfl, t10, Tp.tk s10.tk td9, dk, ?_⟩
    have t10 := Tp.tk s10.tk t9
    have hh10 := hh9.same s10
    clear t9 td9 t8 t7 tdue dk s10 hh9 k9 wz9 lz9 e8 f8 hh8 s8 e7 f7 hh7 hu dr7 wo7
    walk_at "xxZ"
    refine ⟨h, d, rfl, hh10, fun p H11 hp k11 hh11 => ?_⟩
    have t11 := Tp.tk (hh10.keep_tk k11) t10
    walk_at "xxZ"
    refine ⟨h, d, v, c, n, p, true, rfl, hh11, t11, ok, dpc, by omega, by omega, by omega, fun r12 u12 H12 ws dd p12 k12 hh12 nr12 nu12 e12 f12 dr12 _ le12 _ lw12 => ?_⟩
    have nr : r12 ≠ h := (hh11.new nr12).1.symm
    have t12 := Tp.tk (hh11.keep_tk k12) t11
    have wo12 : WOk 7750 ws := wok_of dr12 (by omega)
    have rd12 := read_dressed dr12
    have ne12 : ws ≠ [] := fun e => by
      have := dr_len dr12
      rw [e] at this
      exact absurd this (by decide)
    clear t10 t11 hh10 hh11 k11 k12 dr12 lw12 le12
    walk_at "xxZ"
    refine s_cut (fun σ H' => σ = [some (.ref a), some (.ref h), some (v), some (.str (textC c)), some (.str (textC c)), some (.ref r7), some ((if dd ≤ 8 then v else .non)), some (.ref r12), none, none, none, none, none, none] ∧ H12 = H') ?_ (fun σ H8 p8 => ?_)
    · walk_at "xxZ"
      refine iteD (fun e => ?_) (fun e => ?_)
      · walk_at "xxZ"
        refine ⟨?_, rfl⟩
        rw [if_neg (by omega)]
        rfl
      · walk_at "xxZ"
        refine ⟨?_, rfl⟩
        rw [if_pos (by omega)]
        rfl
    obtain ⟨rfl, rfl⟩ := p8
    have tdue := oC_due t12 rd12
    generalize hu : (if dd ≤ 8 then v else V.non) = due at *
    have dk : DOk 40 (oC (readC ws)) := dok_read (Nat.le_trans wo12.len (by decide))
    walk_at "xxZ"
    refine ⟨h, d, u12, ws, rfl, hh12, f12, ⟨Nat.le_trans wo12.len (by decide), wo12.tok, wo12.short⟩, fun z13 H13 wz13 lz13 k13 hh13 => ?_⟩
    have t13 := Tp.tk (hh12.keep_tk k13) t12
    have td13 := Tp.tk (hh12.keep_tk k13) tdue
    have e13 := k13 r12 _ nr e12
    have f13 := k13 u12 _ (list_ne_hand hh12 f12) f12
    walk_at "xxZ"
    refine ⟨z13, rfl, by omega, small_ws wo12 (by decide) wz13, fun v14 H14 s14 t14 => ?_⟩
    rw [readT_of wz13] at t14
    walk_at "xxZ"
    refine ⟨v14, due, _, rfl, t14, Tp.tk s14.tk td13, dk, ?_⟩
    have t14 := Tp.tk s14.tk t13
    have hh14 := hh13.same s14
    have e14 := s14 _ _ e13
    have f14 := s14 _ _ f13
    clear t13 td13 t12 tdue dk s14 hh13 k13 wz13 lz13 e13 f13 e12 f12 hh12 hu rd12
    walk_at "xxZ"
    refine b_lenS (Nat.le_of_lt (big1 (by omega))) ?_
    walk_at "xxZ"
    refine ⟨h, d, _, rfl, hh14, by omega, fun r15 H15 r15a r15b c15 hh15 => ?_⟩
    obtain ⟨j, hj⟩ : ∃ j : Nat, r15 = (j : Int) := ⟨r15.toNat, by omega⟩
    subst hj
    have nu : u12 ≠ h := list_ne_hand hh14 f14
    have t15 := Tp.tk (hh14.chg_tk c15) t14
    have e15 := c15.at e14 nr
    have f15 := c15.at f14 nu
    walk_at "xxZ"
    rename_i pL H16 n16 s16 e16
    have nn16 := hh15.new n16
    refine ⟨h, d, _, rfl, hh15.same s16, by omega, fun r17 H17 r17a r17b c17 hh17 => ?_⟩
    obtain ⟨j2, hj2⟩ : ∃ j : Nat, r17 = (j : Int) := ⟨r17.toNat, by omega⟩
    subst hj2
    obtain ⟨y, cc, gy, ey, nok⟩ := for_item (xs := [.str "A", .str "_", .str ".", .str "\n", .str "\t", .str "*", .str "{"]) (by decide +kernel) (j := j2) (show j2 < 7 by omega)
    have ly : y.length = 1 := by rw [str_len, show y.cps.toList = [cc] from ey]; rfl
    have t17 := Tp.tk ((hh15.same s16).chg_tk c17) (Tp.tk s16.tk t15)
    have e17 := c17.at (s16 _ _ e15) nr
    have f17 := c17.at (s16 _ _ f15) nu
    refine o_ixL (lst_of (c17.at e16 nn16.1.symm)) (atI_nat gy) ?_
    clear t14 t15 e14 e15 f14 f15 hh14 hh15 c15 s16 e16 n16 nn16 c17 gy
    walk_at "xxZ"
    have lc1 := cutS_length (textC c) none (some (j : Int))
    have lc2 := cutS_length (textC c) (some (j : Int)) none
    refine l_S (Nat.le_of_lt (big1 (by omega))) ?_
    walk_at "xxZ"
    refine o_addS (Nat.le_of_lt (big1 (by omega))) ?_
    walk_at "xxZ"
    refine l_S (Nat.le_of_lt (big1 (by omega))) ?_
    refine o_addS (Nat.le_of_lt (big1 (by rw [app_len]; omega))) ?_
    have bad : wordsW (cutS (textC c) none (some (j : Int)) ++ y ++ cutS (textC c) (some (j : Int)) none) = none := by
      refine words_bad2 ⟨cc, ?_, nok⟩
      rw [tl_app, tl_app, ey]
      exact List.mem_append_left _ (List.mem_append_right _ (List.mem_singleton.mpr rfl))
    walk_at "xxZ"
    refine ⟨_, rfl, by rw [app_len, app_len]; omega, none_ws bad, fun v18 H18 s18 t18 => ?_⟩
    have t18 : Tp H18 v18 .none := by
      have : readT (cutS (textC c) none (some (j : Int)) ++ y ++ cutS (textC c) (some (j : Int)) none) = none := by
        unfold readT
        rw [bad]
      rw [this] at t18
      exact t18
    obtain rfl := tp_none t18
    have t18 := Tp.tk s18.tk t17
    have hh18 := hh17.same s18
    have e18 := s18 _ _ e17
    have f18 := s18 _ _ f17
    clear t17 hh17 e17 f17 s18 bad lc1 lc2
    walk_at "xxZ"
    refine f_range (fun i σ H' => HandAt H' h d ∧ Tp H' v c.d ∧ ∃ (p : Addr) (ws : List Str) (z11 : Option V), σ = [some (.ref a), some (.ref h), some (v), some (.str (textC c)), some (.str (textC c)), some (.ref r7), some (due), some (.ref r12), some (.int j), some (.str y), some (.ref p), z11, none, none] ∧ H' p = some (.lst (ws.map V.str)) ∧ ws ≠ [] ∧ WOk (7750 + i) ws)
      ⟨hh18, t18, u12, ws, _, rfl, f18, ne12, wo12⟩ (fun i σ H19 hi hW => ?_) (fun σ H19 hW => ?_)
    · obtain ⟨hh19, t19, p, ws, z11, rfl, e19, ne, wo⟩ := hW
      have hi3 : i < 3 := hi
      walk_at "xxZ"
      refine ⟨h, d, p, ws, rfl, hh19, e19, ne, ⟨Nat.le_trans wo.len (by omega), wo.tok, wo.short⟩, fun p' ws' H20 e20 wo' k20 hh20 => ?_⟩
      have wl : ws'.length ≤ 7750 + (i + 1) := Nat.le_trans wo'.len (by have := wo.len; omega)
      have wo2 : WOk (7750 + (i + 1)) ws' := ⟨wl, wo'.tok, wo'.short⟩
      have t20 := Tp.tk (hh19.keep_tk k20) t19
      walk_at "xxZ"
      refine ⟨h, d, p', ws', rfl, hh20, e20, ⟨Nat.le_trans wl (by omega), wo2.tok, wo2.short⟩, fun z21 H21 wz21 lz21 k21 hh21 => ?_⟩
      have t21 := Tp.tk (hh20.keep_tk k21) t20
      have e21 := k21 p' _ (list_ne_hand hh20 e20) e20
      walk_at "xxZ"
      refine ⟨z21, rfl, by omega, small_ws wo2 (by omega) wz21, fun v22 H22 s22 t22 => ?_⟩
      rw [readT_of wz21] at t22
      have e22 := s22 _ _ e21
      walk_at "xxZ"
      refine ⟨p', ws', rfl, e22, wo2.small (by omega), fun v23 H23 s23 t23 => ?_⟩
      walk_at "xxZ"
      refine ⟨v22, v23, _, rfl, Tp.tk s23.tk t22, t23, dok_read (by omega), ?_⟩
      have e23 := s23 _ _ e22
      have t23' := Tp.tk (s22.trans s23).tk t21
      have hh23 := hh21.same (s22.trans s23)
      walk_at "xxZ"
      refine b_lenL (lst_of e23) ?_
      rw [List.length_map]
      walk_at "xxZ"
      refine iteI (fun e => ?_) (fun e => ?_)
      · walk_at "xxZ"
        exact q _
      · walk_at "xxZ"
        exact ⟨hh23, t23', p', ws', _, rfl, e23, fun z => e (by rw [z]; rfl), wo2⟩
    obtain ⟨hh19, t19, p, ws2, z11, rfl, e19, _, _⟩ := hW
    clear e18 f18 t18 hh18 e19
    walk_at "xxZ"
    refine ⟨h, d, _, rfl, hh19, by omega, fun r20 H20 r20a r20b c20 hh20 => ?_⟩
    obtain ⟨k, hk⟩ : ∃ k : Nat, 4 + r20 = (k : Int) := ⟨(4 + r20).toNat, by omega⟩
    have k9 : k ≤ 9 := by omega
    have t20 := Tp.tk (hh19.chg_tk c20) t19
    clear hh19 t19 c20
    walk_at "xxZ"
    rw [hk]
    walk_at "xxZ"
    refine f_range (fun i σ H' => ∃ z11 u, σ = [some (.ref a), some (.ref h), some (v), some (.str (textC c)), some (.str (textC c)), some (.ref r7), some (due), some (.ref r12), some (.int j), some (.str y), some (.ref p), z11, some (u), some (.int (k : Int))] ∧ Same H20 H' ∧ Tp H' u (nots i c).d)
      ⟨_, v, rfl, Same.refl _, t20⟩ (fun i σ H21 hi hW => ?_) (fun σ H21 hW => ?_)
    · obtain ⟨z11, u, rfl, s21, t21⟩ := hW
      walk_at "xxZ"
      rename_i pt H22 n22 s22 e22
      refine ⟨_, _, rfl, s21.trans s22, ?_⟩
      show Tp H22 _ (Cd.no (nots i c)).d
      rw [Cd.d]
      exact .tup e22 (.cons (.str _) (.cons (Tp.tk s22.tk t21) .nil))
    obtain ⟨z11, u, rfl, s21, t21⟩ := hW
    rw [Int.toNat_natCast] at t21
    have t22 := Tp.tk s21.tk t20
    clear s21 t20 hh20
    walk_at "xxZ"
    refine s_cut (fun σ H' => True) ?_ (fun σ H22 _ => ?_)
    · cases c with
      | no c =>
        obtain ⟨ca, cu, rfl, eca, _⟩ := cd_no t22
        walk_at "xxZ"
        trivial
      | jn o cs =>
        obtain ⟨ca, cb, cus, rfl, eca, _, _⟩ := cd_jn t22
        walk_at "xxZ"
        refine iteFF (jw_cmp o) ?_
        walk_at "xxZ"
        trivial
      | cmp sg l r =>
        obtain ⟨ca, cu, cx, rfl, eca, _, _⟩ := cd_cmp t22
        have drn := dr_nots ok k
        have won : WOk 40 (List.replicate k ("not" : Str) ++ wC (.cmp sg l r)) := wok_of drn (by
          have gl := wordsE_len ok.2.1
          have gr := wordsE_len ok.2.2
          rw [wC]
          simp only [List.length_append, List.length_replicate, List.length_cons]
          omega)
        have rdn := read_dressed drn
        have twn := (to_nots (text_words ok) k).words
        have dkn : DOk 40 (oC (readC (List.replicate k ("not" : Str) ++ wC (.cmp sg l r)))) := dok_read (Nat.le_trans won.len (by decide))
        walk_at "xxZ"
        refine s_cut (fun σ H' => ∃ z11, σ = [some (.ref a), some (.ref h), some (.ref ca), some (.str (textC (.cmp sg l r))), some (.str (textC (.cmp sg l r))), some (.ref r7), some ((if k ≤ 8 then u else .non)), some (.ref r12), some (.int j), some (.str y), some (.ref p), z11, some (u), some (.int (k : Int))] ∧ H21 = H') ?_ (fun σ H8 p8 => ?_)
        · walk_at "xxZ"
          refine iteD (fun e => ?_) (fun e => ?_)
          · walk_at "xxZ"
            refine ⟨z11, ?_, rfl⟩
            rw [if_neg (by omega)]
            rfl
          · walk_at "xxZ"
            refine ⟨z11, ?_, rfl⟩
            rw [if_pos (by omega)]
            rfl
        obtain ⟨z12, rfl, rfl⟩ := p8
        have tdue := oC_due t21 rdn
        generalize hu : (if k ≤ 8 then u else V.non) = due2 at *
        walk_at "xxZ"
        refine o_mulS (by omega) (by omega) (by decide +kernel) ?_
        have ln : (repS ("not " : Str) (k : Int)).length ≤ 100 := by
          rw [repS_len, Int.toNat_natCast, show ("not " : Str).length = 4 by decide +kernel]
          omega
        walk_at "xxZ"
        refine o_addS (Nat.le_of_lt (big1 (by omega))) ?_
        rw [notS_rep]
        have lm : (notS k (textC (.cmp sg l r))).length ≤ 3000 := by
          rw [← notS_rep, app_len]
          omega
        refine ⟨_, rfl, by omega, small_ws won (by decide) twn, fun v23 H23 s23 t23 => ?_⟩
        rw [readT_of twn] at t23
        walk_at "xxZ"
        refine ⟨v23, due2, _, rfl, t23, Tp.tk s23.tk tdue, dkn, ?_⟩
        walk_at "xxZ"
        trivial
    · walk_at "xxZ"
      refine ⟨_, rfl, by decide +kernel, fun ws' h' => ?_, fun v23 H23 s23 t23 => ?_⟩
      · have : wordsW ("" : Str) = some [] := by decide +kernel
        rw [this] at h'
        cases h'
        exact ⟨Nat.zero_le _, fun _ h => by cases h⟩
      · rw [show readT ("" : Str) = none by decide +kernel] at t23
        obtain rfl := tp_none t23
        walk_at "xxZ"
        exact q _
end
end K03
open PySem PySem.W PySem.Calls PyProof.Rows
set_option maxHeartbeats 0 in
theorem PySem.Challenge.cw_wayorring_k03_conditions_read_back_holds : PySem.Challenge.rw_wayorring_k03_conditions_read_back.Holds := by
  w_on; o_law
  refine HandSHeadRun.head_any (r := OpenLaw.row PySem.Challenge.rw_wayorring_k03_conditions_read_back) (q := view (OpenLaw.row PySem.Challenge.rw_wayorring_k03_conditions_read_back).prog [63]) (H := K03.hk) (ob := K03.ob) (M := 20000) (loose := K03.loose) (d := HandSHeadRun.topDef (OpenLaw.row PySem.Challenge.rw_wayorring_k03_conditions_read_back).prog 63) (kwd := []) K03.ob_eq
    (by kernel_rfl) (fun s => by kernel_rfl) K03.run (by kernel_rfl) (by kernel_rfl) (by kernel_rfl) (by rfl) (by first | assumption | decide +kernel) (by decide +kernel) ⟨rfl, rfl, rfl, rfl, rfl, by decide +kernel⟩ ?hw ?hc
  case hw => w_witness2
  case hc =>
    refine L2.walk_ofE (l := PySem.Challenge.rw_wayorring_k03_conditions_read_back) (n := 63) (k := 41) (x := "script") (CX := L2.CX0) rfl (by decide) (by kernel_rfl) ⟨rfl, by decide, by decide⟩ ?F (fun _ _ _ _ z => z)
    intro w mg fa h Y G hmg0
    obtain ⟨K, KX, c⟩ := Y
    have hmg : mg ("law" : PySem.Str) = some (.ref fa) := by
      have e : (HandSHeadRun.topDef (OpenLaw.row PySem.Challenge.rw_wayorring_k03_conditions_read_back).prog 63).name = ("law" : PySem.Str) := by kernel_rfl
      rw [← e]
      exact hmg0
    have T := K03.tx_of KX G c
    obtain ⟨f, fd, F, e2⟩ := T.d_law.ex
    have e3 := hmg.symm.trans e2
    cases e3
    exact ⟨K, fd, K03.spLaw K, KX, fun s v => L2.FunD.bindsA (ps := ["script"]) F (fun _ _ _ _ _ _ us hl => match us, hl with | [_], _ => rfl) s [v] rfl, fun H a ns hl _ hS => ⟨a, ns, rfl, hS, hl, fun _ => rfl⟩, fun base _ _ => K03.ok_law T F⟩

