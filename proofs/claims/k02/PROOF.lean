import PyProof.Rows.All
import Wide.All
import OpenK.AllK
import Wide.FinOn
import KE.KStateDown
import HandS.ForMost
import HandS.IsInst
import HandS.Codes
import HandS.Exc
import HandS.Defaults
import HandS.Head0
import HandS.Head1
import HandS.Head2
import HandS.HeadEnd
import HandS.HeadHook1
import HandS.HeadHook2
import HandS.HeadHook3
import HandS.HeadHook4
import HandS.FStr
import KE.IntTextLaws
import PyProof.Rows.StrDigitsNeg
import PySem.Challenge.RW_wayorring_k02_expressions_read_back
set_option Elab.async false
set_option linter.all false
set_option maxRecDepth 100000
set_option maxHeartbeats 8000000
/-! Wy: rules that take operands of several kinds, and steps. -/
namespace Wy
open PySem PySem.Spec PyProof.Rows L2
section
variable {X : Cx}
theorem CallR.or {f : Value} {r r' : List V → Hp → VK → Prop} (h : CallR X f r) (h' : CallR X f r') : CallR X f (fun xs H Q => r xs H Q ∨ r' xs H Q) := by
  intro pins s σ H xs us Q I rv q
  rcases q with q | q
  · exact h pins s σ H xs us Q I rv q
  · exact h' pins s σ H xs us Q I rv q
/-- k times a text -/
def repS (z : Str) (k : Int) : Str := ⟨(List.replicate k.toNat z.cps.toList).flatten.toArray⟩
theorem foldl_rep (a : Array Nat) : ∀ (n : Nat) (acc : Array Nat), ((List.replicate n a).foldl (· ++ ·) acc) = (acc.toList ++ (List.replicate n a.toList).flatten).toArray
  | 0, acc => by simp
  | n + 1, acc => by
    rw [List.replicate_succ, List.foldl_cons, foldl_rep a n, List.replicate_succ, List.flatten_cons]
    simp
theorem repS_eq (z : Str) (n : Int) : (⟨(List.replicate n.toNat z.cps).foldl (· ++ ·) #[]⟩ : Str) = repS z n := by
  unfold repS
  rw [foldl_rep]
  simp
def rMulSI : R2 := fun x y H Q => ∃ z k, x = .str z ∧ y = .int k ∧ 0 ≤ k ∧ k ≤ 1000 ∧ z.length ≤ 1000 ∧ Q (.str (repS z k)) H
theorem op_mulSI : OpR X (binaryOp .Mult) rMulSI := by
  intro pins s σ H x y v u Q I rx ry h
  obtain ⟨z, k, rfl, rfl, h0, h1, h2, q⟩ := h
  obtain ⟨t, rfl⟩ := rx
  obtain ⟨t', rfl⟩ := ry
  have hs : sizeLine = 16777216 := sizeLine_eq
  refine PySem.P.mul_str ?_ (fun a b => ?_) (fun a b => ?_) ?_
  · rw [decide_eq_false (by omega), decide_eq_false (by omega)]
    rfl
  · have h3 : (1000 : Int) ≤ (2 ^ 63 - 1) / k := (Int.le_ediv_iff_mul_le (by omega)).mpr (by omega)
    omega
  · unfold Builtin.Str.tooLong
    rw [decide_eq_false_iff_not]
    have h4 : z.length * k.toNat ≤ 1000 * 1000 := Nat.mul_le_mul h2 (by omega)
    omega
  · by_cases a : k < 1
    · have ek : k = 0 := by omega
      subst ek
      rw [if_pos a]
      have e : repS z 0 = Str.empty := rfl
      rw [e] at q
      exact ⟨by decide, .str Str.empty, H, I.tok _, ⟨_, rfl⟩, q⟩
    · rw [if_neg a]
      by_cases b : (k == 1 || z.length == 0) = true
      · rw [if_pos b]
        have e : repS z k = z := by
          rcases Bool.or_eq_true_iff.mp b with b | b
          · have e1 : k = 1 := by simpa using b
            subst e1
            unfold repS
            simp
          · have e1 : z.length = 0 := by simpa using b
            have e2 : z.cps = #[] := by simpa [Str.length] using e1
            obtain ⟨c⟩ := z
            unfold repS
            simp at e2
            subst e2
            simp
        rw [e] at q
        exact ⟨.str z, H, I, ⟨_, rfl⟩, q⟩
      · rw [if_neg b, repS_eq]
        refine ⟨?_, .str (repS z k), H, I.tok _, ⟨_, rfl⟩, q⟩
        have h4 : (repS z k).length = k.toNat * z.length := by
          unfold repS
          simp [Str.length, List.length_flatten, List.map_replicate, List.sum_replicate_nat]
        rw [h4]
        have h5 : k.toNat * z.length ≤ 1000 * 1000 := Nat.mul_le_mul (by omega) h2
        omega
/-- + of two ints, two texts, two lists -/
def rAddS : R2 := fun x y H Q => ∃ i j, x = .str i ∧ y = .str j ∧ i.length + j.length ≤ sizeLine ∧ Q (.str (i ++ j)) H
def rAddI : R2 := rI0 fun i j => .int (i + j)
def rAdd3 : R2 := fun x y H Q => rAddI x y H Q ∨ rAddS x y H Q ∨ rCat x y H Q
theorem op_add3 : OpR X (binaryOp .Add) rAdd3 := op_add.or (op_add_str.or op_cat)
def rMul2 : R2 := fun x y H Q => rI CMul (fun i j => .int (i * j)) x y H Q ∨ rMulSI x y H Q
theorem op_mul2 : OpR X (binaryOp .Mult) rMul2 := op_mul.or op_mulSI
/-- == -/
def rEq2 (K : PySem.W.Frag) : R2 := fun x y H Q => rEq x y H Q ∨ rEqD K x y H Q
theorem op_eq2 (hu : X.A.units + 64 < cLine) : OpR X (compareOp .Eq) (rEq2 X.K) := op_eq.or (op_eqD hu)
def rNe2 (K : PySem.W.Frag) : R2 := fun x y H Q => rNe x y H Q ∨ rNeD K x y H Q
theorem op_ne2 (hu : X.A.units + 64 < cLine) : OpR X (compareOp .NotEq) (rNe2 X.K) := op_ne.or (op_neD hu)
/-- in: a sign in a text; a flat item in a list or tuple -/
def rInS : R2 := fun x y H Q => ∃ (c : Nat) (z : Str), x = .str ⟨#[c]⟩ ∧ y = .str z ∧ Q (.bl (decide (c ∈ z.cps.toList))) H
def rNiS : R2 := fun x y H Q => ∃ (c : Nat) (z : Str), x = .str ⟨#[c]⟩ ∧ y = .str z ∧ Q (.bl (!decide (c ∈ z.cps.toList))) H
def rIn2 (K : PySem.W.Frag) : R2 := fun x y H Q => rInS x y H Q ∨ rIn K false x y H Q
def rNi2 (K : PySem.W.Frag) : R2 := fun x y H Q => rNiS x y H Q ∨ rIn K true x y H Q
theorem op_in2 : OpR X (compareOp .In) (rIn2 X.K) := op_in_sign.or op_in_seq
theorem op_ni2 : OpR X (compareOp .NotIn) (rNi2 X.K) := op_notIn_sign.or op_notIn_seq
def rSl2 (K : PySem.W.Frag) : V → Option Int → Option Int → Hp → VK → Prop := fun x lo hi H Q => rSlS x lo hi H Q ∨ rSlL K x lo hi H Q
theorem sl_2 : SlR X (rSl2 X.K) := sl_str.or sl_list
def rInt : List V → Hp → VK → Prop := fun xs H Q => ((∃ i, xs = [.int i] ∧ Q (.int i) H) ∨ ∃ k, xs = [.bl k] ∧ Q (.int (if k then 1 else 0)) H) ∨ ∃ a n, xs = [.str a] ∧ PySem.intText? a = some n ∧ a.length ≤ 640 ∧ Q (.int n) H
theorem call_int2 : CallR X (.type "int") rInt := CallR.or call_int1 call_int_str
def rAbs : List V → Hp → VK → Prop := fun xs H Q => ∃ i, xs = [.int i] ∧ Q (.int (if i < 0 then -i else i)) H
theorem call_abs2 : CallR X (.builtin "abs") rAbs := call_abs
def rLn (K : PySem.W.Frag) : List V → Hp → VK → Prop := fun xs H Q => ∃ x n, xs = [x] ∧ LenV K x H n ∧ Q (.int n) H
theorem call_len2 : CallR X (.builtin "len") (rLn X.K) := call_len
def tTr (K : PySem.W.Frag) (ta : TE) : TT := fun σ H Q => ta σ H fun x H' => ∃ k, TruV K x H' k ∧ Q k H'
theorem pt_tr {e : Expr} {te : TE} (h : PE X e te) (he : ∀ whole, isTrue e X.env whole = (do let v ← whole; standAt e.pos; holding [v] (truthy v)) := by intro _; rfl) : PT X e (tTr X.K te) := pt_truth h he
end

/-! ### what a heap keeps -/
/-- only at l -/
def Chg (l : Addr) (H H' : Hp) : Prop := ∀ b, b ≠ l → H' b = H b
theorem same_new {H : Hp} {p : Addr} {o : HO} (h : H p = none) : Same H (upd H p o) := fun b x e => by
  rw [upd_ne (ne_of_none e h)]
  exact e
theorem chg_upd {H : Hp} {p : Addr} {o : HO} : Chg p H (upd H p o) := fun b e => by rw [upd_ne e]
theorem Chg.same {l : Addr} {H0 H H' : Hp} (c : Chg l H H') (s : Same H0 H) (n : H0 l = none) : Same H0 H' := fun b o e => by
  rw [c b (ne_of_none e n)]
  exact s b o e
theorem Chg.at {l b : Addr} {H H' : Hp} {o : HO} (c : Chg l H H') (e : H b = some o) (n : b ≠ l) : H' b = some o := by
  rw [c b n]
  exact e
theorem new_same {H : Hp} {o : HO} {Q : VK} (h : ∀ p H2, H p = none → Same H H2 → H2 p = some o → Q (.ref p) H2) : ∀ p, H p = none → Q (.ref p) (upd H p o) :=
  fun p np => h p _ np (same_new np) upd_same
theorem lst_of {K : PySem.W.Frag} {H : Hp} {a : Addr} {xs : List V} (h : H a = some (.lst xs)) : SqL K H a xs := .inl (.inl h)
theorem tup_of {K : PySem.W.Frag} {H : Hp} {a : Addr} {xs : List V} (h : H a = some (.tup xs)) : SqT K H a xs := .inl (.inl h)
theorem seqT {K : PySem.W.Frag} {H H' : Hp} {a : Addr} {xs : List V} (e : Same H H') (h : SqT K H a xs) : SqT K H' a xs := by
  rcases h with (h | ⟨o, h⟩) | h
  · exact .inl (.inl (e _ _ h))
  · exact .inl (.inr ⟨o, e _ _ h⟩)
  · exact .inr h
/-! ### steps -/
def KBl (x : V) (H : Hp) (QT : Bool → Hp → Prop) : Prop := ∃ k, x = .bl k ∧ QT k H
def KTr (K : PySem.W.Frag) (x : V) (H : Hp) (QT : Bool → Hp → Prop) : Prop := ∃ k, TruV K x H k ∧ QT k H
def KInt (x : V) (H : Hp) (QO : Option Int → Hp → Prop) : Prop := ∃ i, x = .int i ∧ QO (some i) H
def KR1 (vs : List V) (H : Hp) (R : It → Hp → Prop) : Prop := ∃ j : Int, vs = [.int j] ∧ -(2 ^ 62) ≤ j ∧ j < 2 ^ 62 ∧ R (Itr 0 j.toNat) H
def KR2 (vs : List V) (H : Hp) (R : It → Hp → Prop) : Prop := ∃ i j : Int, vs = [.int i, .int j] ∧ (-(2 ^ 62) ≤ i ∧ i < 2 ^ 62 ∧ -(2 ^ 62) ≤ j ∧ j < 2 ^ 62) ∧ R (Itr i (j - i).toNat) H
def KL (K : PySem.W.Frag) (x : V) (H : Hp) (R : It → Hp → Prop) : Prop := ∃ a, x = .ref a ∧ (∃ xs, SqL K H a xs) ∧ R (Itl K a) H
def KT (K : PySem.W.Frag) (x : V) (H : Hp) (R : It → Hp → Prop) : Prop := ∃ a, x = .ref a ∧ (∃ xs, SqT K H a xs) ∧ R (Itt K a) H
def KS (x : V) (H : Hp) (R : It → Hp → Prop) : Prop := ∃ z, x = .str z ∧ R (Its z) H
def NewO (n : Nat) (o : HO) (H : Hp) (Q : VK) : Prop := n ≤ sizeLine ∧ ∀ p, H p = none → Q (.ref p) (upd H p o)
def COut (D : Addr) (y : V) (H : Hp) (N : Hp → Prop) : Prop := ∃ acc, H D = some (.lst acc) ∧ acc.length < sizeLine ∧ N (upd H D (.lst (acc ++ [y])))
def KWh (W : Nat → L2.St → Hp → Prop) (m : Nat) (t : TS) (D : Ends) (σ : L2.St) (H : Hp) : Prop := ∃ N : L2.St → Hp → Prop, (∀ σ' H', N σ' H' → ∃ m', m' < m ∧ W m' σ' H') ∧ t ⟨N, D.rt, D.nx, N⟩ σ H
section
variable {K : PySem.W.Frag} {σ : L2.St} {H : Hp} {Q : VK} {QT : Bool → Hp → Prop} {D : Ends} {t u : TS} {c c' : TT} {te ta tb : TE} {g : TG} {v x y : V} {i : Nat} {b : Bool} {QA : List V → Hp → Prop}
theorem s_seq (h : t ⟨u D, D.rt, D.bk, D.ct⟩ σ H) : tSeq t u D σ H := h
theorem s_asg (h : te σ H fun x H1 => g x σ H1 D.nx) : tAsg te g D σ H := h
theorem g_name {QS : L2.St → Hp → Prop} (h : QS (σ.set i (some v)) H) : gName i v σ H QS := h
theorem s_ret (h : te σ H D.rt) : tRet te D σ H := h
theorem s_retN (h : D.rt .non H) : tRetN D σ H := h
theorem s_drop (h : te σ H fun _ H1 => D.nx σ H1) : tDrop te D σ H := h
theorem s_if (h : c σ H fun b H1 => if b = true then t D σ H1 else u D σ H1) : tIfS c t u D σ H := h
theorem s_next (h : D.nx σ H) : tNext D σ H := h
theorem s_brk (h : D.bk σ H) : tBreak D σ H := h
theorem s_ct (h : D.ct σ H) : tCont D σ H := h
theorem s_aug {ti : TIp} (e : σ[i]? = some (some x)) (h : te σ H fun y H1 => ti x y H1 fun z H2 => D.nx (σ.set i (some z)) H2) : tAug i te ti D σ H := ⟨x, e, h⟩
theorem i_add {i j : Int} {f : Int → Int → Int} (h : Q (.int (f i j)) H) : ipI f (.int i) (.int j) H Q := ⟨i, j, rfl, rfl, h⟩
theorem s_cut (M : L2.St → Hp → Prop) (h : t ⟨M, D.rt, D.bk, D.ct⟩ σ H) (k : ∀ σ' H', M σ' H' → u D σ' H') : C8.tCut t u D σ H := ⟨M, h, k⟩
theorem e_var (e : σ[i]? = some (some v)) (h : Q v H) : tVar i σ H Q := ⟨v, e, h⟩
theorem e_c (h : Q v H) : tC v σ H Q := h
theorem e_op {r : R2} (h : ta σ H fun x H1 => tb σ H1 fun y H2 => r x y H2 Q) : tOp r ta tb σ H Q := h
theorem e_un {r : V → Hp → VK → Prop} (h : ta σ H fun x H1 => r x H1 Q) : tUn r ta σ H Q := h
theorem o_addI {i j : Int} (h : Q (.int (i + j)) H) : rAdd3 (.int i) (.int j) H Q := .inl ⟨i, j, rfl, rfl, h⟩
theorem o_addS {i j : Str} (hz : i.length + j.length ≤ sizeLine) (h : Q (.str (i ++ j)) H) : rAdd3 (.str i) (.str j) H Q := .inr (.inl ⟨i, j, rfl, rfl, hz, h⟩)
theorem o_addL {a a' : Addr} {xs ys : List V} (ha : H a = some (.lst xs)) (hb : H a' = some (.lst ys)) (hz : xs.length + ys.length ≤ sizeLine) (h : ∀ p H2, H p = none → Same H H2 → H2 p = some (.lst (xs ++ ys)) → Q (.ref p) H2) :
    rAdd3 (.ref a) (.ref a') H Q := .inr (.inr ⟨a, a', xs, ys, rfl, rfl, ha, hb, hz, new_same h⟩)
theorem o_mulI {i j : Int} (hc : CMul i j) (h : Q (.int (i * j)) H) : rMul2 (.int i) (.int j) H Q := .inl ⟨i, j, rfl, rfl, hc, h⟩
theorem o_mulI1 {i j : Int} (h1 : -(2 ^ 64) < i) (h2 : i < 2 ^ 64) (h : Q (.int (i * j)) H) : rMul2 (.int i) (.int j) H Q := o_mulI (.inl ⟨h1, h2⟩) h
theorem o_mulI2 {i j : Int} (h1 : -(2 ^ 64) < j) (h2 : j < 2 ^ 64) (h : Q (.int (i * j)) H) : rMul2 (.int i) (.int j) H Q := o_mulI (.inr ⟨h1, h2⟩) h
theorem o_mod {f : Int → Int → V} {i j : Int} (h1 : 0 < j) (h : Q (f i j) H) : rI (fun _ j => 0 < j) f (.int i) (.int j) H Q := ⟨i, j, rfl, rfl, h1, h⟩
theorem o_fdiv {f : Int → Int → V} {i j : Int} (h1 : 0 < j) (h2 : j < 1073741824) (h : Q (f i j) H) : rI CDiv f (.int i) (.int j) H Q := ⟨i, j, rfl, rfl, ⟨h1, h2⟩, h⟩
theorem o_pow {f : Int → Int → V} {i j : Int} (h1 : 0 ≤ j) (h2 : j ≤ 1000000) (h3 : i.natAbs < 2 ^ 64) (h : Q (f i j) H) : rI CPow f (.int i) (.int j) H Q := ⟨i, j, rfl, rfl, ⟨h1, h2, h3⟩, h⟩
theorem o_mulS {z : Str} {k : Int} (h0 : 0 ≤ k) (h1 : k ≤ 1000) (h2 : z.length ≤ 1000) (h : Q (.str (repS z k)) H) : rMul2 (.str z) (.int k) H Q := .inr ⟨z, k, rfl, rfl, h0, h1, h2, h⟩
theorem o_I0 {f : Int → Int → V} {i j : Int} (h : Q (f i j) H) : rI0 f (.int i) (.int j) H Q := ⟨i, j, rfl, rfl, h⟩
theorem o_I {C : Int → Int → Prop} {f : Int → Int → V} {i j : Int} (hc : C i j) (h : Q (f i j) H) : rI C f (.int i) (.int j) H Q := ⟨i, j, rfl, rfl, hc, h⟩
theorem o_eqS (hs : scal x y = true) (h : Q (.bl (decide (x = y))) H) : rEq2 K x y H Q := .inl ⟨hs, h⟩
theorem o_neS (hs : scal x y = true) (h : Q (.bl (!decide (x = y))) H) : rNe2 K x y H Q := .inl ⟨hs, h⟩
theorem o_eqD {d e : PyData} (h1 : Dp K H x d) (h2 : Dp K H y e) (h3 : SeqAt.shaped d = true) (h4 : SeqAt.shaped e = true) (h : Q (.bl (PyData.eqv d e)) H) : rEq2 K x y H Q := .inr ⟨d, e, h1, h2, h3, h4, h⟩
theorem o_neD {d e : PyData} (h1 : Dp K H x d) (h2 : Dp K H y e) (h3 : SeqAt.shaped d = true) (h4 : SeqAt.shaped e = true) (h : Q (.bl (!PyData.eqv d e)) H) : rNe2 K x y H Q := .inr ⟨d, e, h1, h2, h3, h4, h⟩
theorem o_inS {k : Nat} {z : Str} (h : Q (.bl (decide (k ∈ z.cps.toList))) H) : rIn2 K (.str ⟨#[k]⟩) (.str z) H Q := .inl ⟨k, z, rfl, rfl, h⟩
theorem o_niS {k : Nat} {z : Str} (h : Q (.bl (!decide (k ∈ z.cps.toList))) H) : rNi2 K (.str ⟨#[k]⟩) (.str z) H Q := .inl ⟨k, z, rfl, rfl, h⟩
theorem o_inT {a : Addr} {xs : List V} (hs : SqT K H a xs) (hf : flatV x = true) (hg : xs.all flatV = true) (h : Q (.bl (inV x xs)) H) : rIn2 K x (.ref a) H Q := .inr ⟨a, xs, rfl, .inr hs, hf, hg, h⟩
theorem o_inL {a : Addr} {xs : List V} (hs : SqL K H a xs) (hf : flatV x = true) (hg : xs.all flatV = true) (h : Q (.bl (inV x xs)) H) : rIn2 K x (.ref a) H Q := .inr ⟨a, xs, rfl, .inl hs, hf, hg, h⟩
theorem o_niT {a : Addr} {xs : List V} (hs : SqT K H a xs) (hf : flatV x = true) (hg : xs.all flatV = true) (h : Q (.bl (!inV x xs)) H) : rNi2 K x (.ref a) H Q := .inr ⟨a, xs, rfl, .inr hs, hf, hg, h⟩
theorem o_niL {a : Addr} {xs : List V} (hs : SqL K H a xs) (hf : flatV x = true) (hg : xs.all flatV = true) (h : Q (.bl (!inV x xs)) H) : rNi2 K x (.ref a) H Q := .inr ⟨a, xs, rfl, .inl hs, hf, hg, h⟩
def rIsN : R2 := fun x y H Q => y = .non ∧ Q (.bl (decide (x = .non))) H
def rNtN : R2 := fun x y H Q => y = .non ∧ Q (.bl (!decide (x = .non))) H
theorem op_isN2 {X : Cx} : OpR X (compareOp .Is) rIsN := op_isN
theorem op_ntN2 {X : Cx} : OpR X (compareOp .IsNot) rNtN := op_notN
theorem o_isN (h : Q (.bl (decide (x = .non))) H) : rIsN x .non H Q := ⟨rfl, h⟩
theorem o_ntN (h : Q (.bl (!decide (x = .non))) H) : rNtN x .non H Q := ⟨rfl, h⟩
theorem o_ixL {a : Addr} {xs : List V} {j : Int} (hs : SqL K H a xs) (e : atI xs j = some v) (h : Q v H) : rIx K (.ref a) (.int j) H Q := .inl ⟨a, xs, j, v, rfl, rfl, hs, e, h⟩
theorem o_ixT {a : Addr} {xs : List V} {j : Int} (hs : SqT K H a xs) (e : atI xs j = some v) (h : Q v H) : rIx K (.ref a) (.int j) H Q := .inr (.inl ⟨a, xs, j, v, rfl, rfl, hs, e, h⟩)
theorem o_ixS {z : Str} {j : Int} {k : Nat} (hz : z.length ≤ sizeLine) (e : atI z.cps.toList j = some k) (h : Q (.str ⟨#[k]⟩) H) : rIx K (.str z) (.int j) H Q := .inr (.inr ⟨z, j, k, rfl, rfl, hz, e, h⟩)
theorem u_neg {i : Int} {f : Int → V} (h : Q (f i) H) : rU f (.int i) H Q := ⟨i, rfl, h⟩
theorem t_test (h : te σ H fun x H' => KBl x H' QT) : tTest te σ H QT := h
theorem t_b (h : te σ H fun x H' => KBl x H' QT) : tB te σ H QT := h
theorem k_bl (h : QT b H) : KBl (.bl b) H QT := ⟨b, rfl, h⟩
theorem t_tr (h : te σ H fun x H' => KTr K x H' QT) : tTr K te σ H QT := h
theorem k_trB (h : QT b H) : KTr K (.bl b) H QT := ⟨b, rfl, h⟩
theorem k_trN (h : QT false H) : KTr K .non H QT := ⟨false, rfl, h⟩
theorem k_trI {i : Int} (h : QT (i != 0) H) : KTr K (.int i) H QT := ⟨_, rfl, h⟩
theorem k_trL {a : Addr} {xs : List V} (hs : SqL K H a xs) (h : QT (!xs.isEmpty) H) : KTr K (.ref a) H QT := ⟨_, .inl ⟨xs, hs, rfl⟩, h⟩
theorem k_trT {a : Addr} {xs : List V} (hs : SqT K H a xs) (h : QT (!xs.isEmpty) H) : KTr K (.ref a) H QT := ⟨_, .inr (.inl ⟨xs, hs, rfl⟩), h⟩
theorem t_and (h : c σ H fun b H1 => if b = true then c' σ H1 QT else QT false H1) : tAnd c c' σ H QT := h
theorem t_or (h : c σ H fun b H1 => if b = true then QT true H1 else c' σ H1 QT) : tOr c c' σ H QT := h
theorem t_not (h : c σ H fun b H1 => QT (!b) H1) : tNot c σ H QT := h
theorem e_andV (h : ta σ H fun x H1 => KBl x H1 fun b H2 => if b = true then tb σ H2 Q else Q (.bl false) H2) : tAndV ta tb σ H Q := h
theorem e_orV (h : ta σ H fun x H1 => KBl x H1 fun b H2 => if b = true then Q (.bl true) H2 else tb σ H2 Q) : tOrV ta tb σ H Q := h
theorem e_notV (h : ta σ H fun x H1 => KBl x H1 fun b H2 => Q (.bl (!b)) H2) : tNotV ta σ H Q := h
theorem e_if (h : c σ H fun b H1 => if b = true then ta σ H1 Q else tb σ H1 Q) : tIf c ta tb σ H Q := h
theorem e_chain {r r' : R2} {tc : TE} (h : ta σ H fun x H1 => tb σ H1 fun y H2 => r x y H2 fun z H3 => KBl z H3 fun k H3 => if k = true then tc σ H3 fun w' H4 => r' y w' H4 Q else Q (.bl false) H3) : tChain r r' ta tb tc σ H Q := h
theorem a_nil (h : QA [] H) : tNil σ H QA := h
theorem a_cons {tr : TA} (h : te σ H fun x H1 => tr σ H1 fun xs H2 => QA (x :: xs) H2) : tCons te tr σ H QA := h
theorem c_b {r : List V → Hp → VK → Prop} {tl : TA} (h : tl σ H fun vs H1 => r vs H1 Q) : tCB r tl σ H Q := h
theorem c_call {sp : Sp} {dvs : List V} {E : XK} {tl : TA} (h : tl σ H fun vs H1 => sp (vs ++ dvs) H1 Q E) : tCall sp dvs E tl σ H Q := h
theorem b_lenS {z : Str} (hz : z.length ≤ sizeLine) (h : Q (.int z.length) H) : rLn K [.str z] H Q := ⟨_, z.length, rfl, ⟨hz, rfl⟩, h⟩
theorem b_lenL {a : Addr} {xs : List V} (hs : SqL K H a xs) (h : Q (.int xs.length) H) : rLn K [.ref a] H Q := ⟨_, xs.length, rfl, .inl ⟨xs, hs, rfl⟩, h⟩
theorem b_lenT {a : Addr} {xs : List V} (hs : SqT K H a xs) (h : Q (.int xs.length) H) : rLn K [.ref a] H Q := ⟨_, xs.length, rfl, .inr ⟨xs, hs, rfl⟩, h⟩
theorem b_int {i : Int} (h : Q (.int i) H) : rInt [.int i] H Q := .inl (.inl ⟨i, rfl, h⟩)
theorem b_intB (h : Q (.int (if b then 1 else 0)) H) : rInt [.bl b] H Q := .inl (.inr ⟨b, rfl, h⟩)
theorem b_intS {z : Str} {n : Int} (e : PySem.intText? z = some n) (hl : z.length ≤ 640) (h : Q (.int n) H) : rInt [.str z] H Q := .inr ⟨z, n, rfl, e, hl, h⟩
theorem b_abs {i : Int} (h : Q (.int (if i < 0 then -i else i)) H) : rAbs [.int i] H Q := ⟨i, rfl, h⟩
theorem b_isi {n : String} {x : V} {tv : Value} (ty : TyX K H x tv) (h : PySem.W.kitOne K tv (.type n) = some b) (q : Q (.bl b) H) : rIsi K [x, .ty n] H Q := ⟨x, .ty n, tv, .type n, b, rfl, .ty n, ty, h, q⟩
theorem e_tup {tl : TA} (h : tl σ H fun xs H1 => NewO xs.length (.tup xs) H1 Q) : tTup tl σ H Q := h
theorem e_lst {tl : TA} (h : tl σ H fun xs H1 => NewO xs.length (.lst xs) H1 Q) : tLst tl σ H Q := h
theorem n_obj {n : Nat} {o : HO} (hz : n ≤ sizeLine) (h : ∀ p H2, H p = none → Same H H2 → H2 p = some o → Q (.ref p) H2) : NewO n o H Q := ⟨hz, new_same h⟩
theorem e_sl {r : V → Option Int → Option Int → Hp → VK → Prop} {tl th : TO} (h : te σ H fun x H1 => tl σ H1 fun l H2 => th σ H2 fun u H3 => r x l u H3 Q) : tSl r te tl th σ H Q := h
theorem p_no {QO : Option Int → Hp → Prop} (h : QO none H) : tNoPart σ H QO := h
theorem p_so {QO : Option Int → Hp → Prop} (h : te σ H fun x H1 => KInt x H1 QO) : tPart te σ H QO := h
theorem k_int {i : Int} {QO : Option Int → Hp → Prop} (h : QO (some i) H) : KInt (.int i) H QO := ⟨i, rfl, h⟩
theorem l_S {z : Str} {lo hi : Option Int} (hz : z.length ≤ sizeLine) (h : Q (.str (cutS z lo hi)) H) : rSl2 K (.str z) lo hi H Q := .inl ⟨z, rfl, hz, h⟩
theorem l_L {a : Addr} {xs : List V} {lo hi : Option Int} (hs : SqL K H a xs) (h : ∀ p H2, H p = none → Same H H2 → H2 p = some (.lst (cutV xs lo hi)) → Q (.ref p) H2) : rSl2 K (.ref a) lo hi H Q := .inr ⟨a, xs, rfl, hs, new_same h⟩
/-- o.m(..), m of a built-in type -/
theorem m_bm {T : String} {r : V → List V → Hp → VK → Prop} {tl : TA} (h : te σ H fun x H1 => tyV K T x H1 ∧ tl σ H1 fun xs H2 => r x xs H2 Q) : tBM K T r te tl σ H Q := h
theorem m_ty {a : Addr} {xs : List V} {P : Prop} (hs : SqL K H a xs) (h : P) : tyV K "list" (.ref a) H ∧ P := ⟨.inl ⟨rfl, xs, hs⟩, h⟩
theorem m_app {a : Addr} {xs : List V} (e : H a = some (.lst xs)) (hz : xs.length < sizeLine) (h : ∀ H2, Chg a H H2 → H2 a = some (.lst (xs ++ [y])) → Q .non H2) : rAppend (.ref a) [y] H Q := ⟨a, xs, y, rfl, rfl, e, hz, h _ chg_upd upd_same⟩
theorem g_sub {to ti : TE} {ts : TSet} {QS : L2.St → Hp → Prop} (h : to σ H fun o H1 => ti σ H1 fun i H2 => ts o i v H2 fun H3 => QS σ H3) : gSub to ti ts v σ H QS := h
theorem st_L {a : Addr} {xs : List V} {k : Int} {j : Nat} {QH : Hp → Prop} (e : H a = some (.lst xs)) (hj : ixN xs.length k = some j) (h : ∀ H2, Chg a H H2 → H2 a = some (.lst (xs.set j v)) → QH H2) : rSetL (.ref a) (.int k) v H QH := ⟨a, xs, k, j, rfl, rfl, e, hj, h _ chg_upd upd_same⟩
theorem m_m1 {r : V → List V → Hp → VK → Prop} (h : te σ H fun x H1 => (∃ a, x = .str a) ∧ ta σ H1 fun y H2 => r x [y] H2 Q) : tM1 r te ta σ H Q := h
theorem m_st {z : Str} {P : Prop} (h : P) : (∃ a, V.str z = .str a) ∧ P := ⟨⟨z, rfl⟩, h⟩
def rJoin (K : PySem.W.Frag) : V → List V → Hp → VK → Prop := fun x xs H Q => ∃ a p, ∃ ys : List Str, x = .str a ∧ xs = [.ref p] ∧ (SqL K H p (ys.map V.str) ∨ SqT K H p (ys.map V.str)) ∧
  (ys.map (·.length)).sum + ys.length * a.length ≤ 16777216 ∧ Q (.str (Txt.join a ys)) H
theorem pe_join2 {X : Cx} {o e : Expr} {to te : TE} {apos pos : Pos} (ho : PE X o to) (he : PE X e te) (hs : starEach [e] X.env = [(false, eval e X.env)] := by rfl) (hbase : attributeBase o "join" X.env (eval o X.env) = eval o X.env := by rfl) (hline : (apos.endLine == pos.line) = true := by rfl) :
    PE X (.Call (.Attribute o "join" apos) [e] [] pos) (tM1 (rJoin X.K) to te) := pe_join ho he hs hbase hline
theorem m_join {z : Str} {a : Addr} {ys : List Str} (hs : SqL K H a (ys.map V.str)) (hz : (ys.map (·.length)).sum + ys.length * z.length ≤ 16777216) (h : Q (.str (Txt.join z ys)) H) : rJoin K (.str z) [.ref a] H Q := ⟨z, a, ys, rfl, rfl, .inl hs, hz, h⟩
/-! ### loops -/
def LoopF (J : It) (g : TG) (tb : TS) (D : Ends) (σ : L2.St) (H : Hp) : Prop := ∃ W : Nat → Nat → L2.St → Hp → Prop, (∃ m, W 0 m σ H) ∧ ∀ i m σ H, W i m σ H →
  (J.stop i H ∧ D.nx σ H) ∨ (J.go i H ∧ ∃ N : L2.St → Hp → Prop, (∀ σ' H', N σ' H' → ∃ m', m' < m ∧ W (i + 1) m' σ' H') ∧ ∀ x H', J.yld i H x H' → g x σ H' fun σ2 H2 => tb { D with nx := N, ct := N, bk := D.nx } σ2 H2)
theorem s_for {wi : TI} (h : wi σ H fun J H1 => LoopF J g t D σ H1) : tFor wi g t D σ H := h
def LoopC (J : It) (g : TG) (tt : TT) (te : TE) (vs : List Nat) (σ : L2.St) (H1 : Hp) (Q : VK) : Prop := ∀ D, H1 D = none → ∃ W : Nat → Nat → Hp → Prop, (∃ m, W 0 m (upd H1 D (.lst []))) ∧ ∀ i m H, W i m H →
  (J.stop i H ∧ Q (.ref D) H) ∨ (J.go i H ∧ ∃ Nx : Hp → Prop, (∀ H', Nx H' → ∃ m', m' < m ∧ W (i + 1) m' H') ∧ ∀ x H', J.yld i H x H' → g x (wipe σ vs) H' fun σ2 H2 => wipe σ2 vs = wipe σ vs ∧ tt σ2 H2 fun b H3 =>
    if b = true then te σ2 H3 fun y H4 => ∃ acc, H4 D = some (.lst acc) ∧ acc.length < sizeLine ∧ Nx (upd H4 D (.lst (acc ++ [y]))) else Nx H3)
theorem e_lc {wi : TI} {tt : TT} {vs : List Nat} (h : wi σ H fun J H1 => LoopC J g tt te vs σ H1 Q) : tLc wi g tt te vs σ H Q := h
theorem t_yes (h : QT true H) : tYes σ H QT := h
theorem w_r1 {tl : TA} {R : It → Hp → Prop} (h : tl σ H fun vs H1 => KR1 vs H1 R) : iRng1 tl σ H R := h
theorem w_r2 {tl : TA} {R : It → Hp → Prop} (h : tl σ H fun vs H1 => KR2 vs H1 R) : iRng2 tl σ H R := h
theorem k_r1 {j : Int} {R : It → Hp → Prop} (h1 : -(2 ^ 62) ≤ j) (h2 : j < 2 ^ 62) (h : R (Itr 0 j.toNat) H) : KR1 [.int j] H R := ⟨j, rfl, h1, h2, h⟩
theorem k_r2 {i j : Int} {R : It → Hp → Prop} (h1 : -(2 ^ 62) ≤ i ∧ i < 2 ^ 62 ∧ -(2 ^ 62) ≤ j ∧ j < 2 ^ 62) (h : R (Itr i (j - i).toNat) H) : KR2 [.int i, .int j] H R := ⟨i, j, rfl, h1, h⟩
theorem w_l {R : It → Hp → Prop} (h : te σ H fun x H1 => KL K x H1 R) : iList K te σ H R := h
theorem k_l {a : Addr} {xs : List V} {R : It → Hp → Prop} (hs : SqL K H a xs) (h : R (Itl K a) H) : KL K (.ref a) H R := ⟨a, rfl, ⟨xs, hs⟩, h⟩
theorem w_t {R : It → Hp → Prop} (h : te σ H fun x H1 => KT K x H1 R) : iTup K te σ H R := h
theorem k_t {a : Addr} {xs : List V} {R : It → Hp → Prop} (hs : SqT K H a xs) (h : R (Itt K a) H) : KT K (.ref a) H R := ⟨a, rfl, ⟨xs, hs⟩, h⟩
theorem f_range {lo : Int} {n : Nat} (Pv : Nat → L2.St → Hp → Prop) (h0 : Pv 0 σ H)
    (hs : ∀ i σ H, i < n → Pv i σ H → g (.int (lo + i)) σ H fun σ2 H2 => t ⟨Pv (i + 1), D.rt, D.nx, Pv (i + 1)⟩ σ2 H2) (hd : ∀ σ H, Pv n σ H → D.nx σ H) : LoopF (Itr lo n) g t D σ H := for_range Pv h0 hs hd
theorem f_list {a : Addr} {xs : List V} (Pv : Nat → L2.St → Hp → Prop) (h0 : Pv 0 σ H) (hl : ∀ i σ H, i ≤ xs.length → Pv i σ H → SqL K H a xs)
    (hs : ∀ i x σ H, xs[i]? = some x → Pv i σ H → g x σ H fun σ2 H2 => t ⟨Pv (i + 1), D.rt, D.nx, Pv (i + 1)⟩ σ2 H2) (hd : ∀ σ H, Pv xs.length σ H → D.nx σ H) : LoopF (Itl K a) g t D σ H := for_list Pv h0 hl hs hd
theorem f_tup {a : Addr} {xs : List V} (Pv : Nat → L2.St → Hp → Prop) (h0 : Pv 0 σ H) (hl : ∀ i σ H, i ≤ xs.length → Pv i σ H → SqT K H a xs)
    (hs : ∀ i x σ H, xs[i]? = some x → Pv i σ H → g x σ H fun σ2 H2 => t ⟨Pv (i + 1), D.rt, D.nx, Pv (i + 1)⟩ σ2 H2) (hd : ∀ σ H, Pv xs.length σ H → D.nx σ H) : LoopF (Itt K a) g t D σ H := for_tup Pv h0 hl hs hd
/-- a text, sign by sign -/
theorem w_s {R : It → Hp → Prop} (h : te σ H fun x H1 => KS x H1 R) : iStr te σ H R := h
theorem k_s {z : Str} {R : It → Hp → Prop} (h : R (Its z) H) : KS (.str z) H R := ⟨z, rfl, h⟩
theorem f_str {z : Str} (Pv : Nat → L2.St → Hp → Prop) (h0 : Pv 0 σ H)
    (hs : ∀ i k σ H, z.cps.toList[i]? = some k → Pv i σ H → g (.str ⟨#[k]⟩) σ H fun σ2 H2 => t ⟨Pv (i + 1), D.rt, D.nx, Pv (i + 1)⟩ σ2 H2) (hd : ∀ σ H, Pv z.cps.toList.length σ H → D.nx σ H) : LoopF (Its z) g t D σ H := by
  refine ⟨fun i m σ H => m = z.cps.toList.length - i ∧ i ≤ z.cps.toList.length ∧ Pv i σ H, ⟨_, rfl, Nat.zero_le _, h0⟩, ?_⟩
  rintro i m σ H ⟨rfl, hi, p⟩
  by_cases hlt : i < z.cps.toList.length
  · refine .inr ⟨show i < z.cps.size by simpa using hlt, Pv (i + 1), fun σ' H' p' => ⟨z.cps.toList.length - (i + 1), by omega, rfl, hlt, p'⟩, fun x H' y => ?_⟩
    obtain ⟨rfl, k, e, rfl⟩ := y
    exact hs i k σ _ (by simpa using e) p
  · have e : i = z.cps.toList.length := by omega
    subst e
    exact .inl ⟨by simp [Its], hd σ H p⟩
theorem c_range {lo : Int} {n : Nat} {vs : List Nat} {tt : TT} (Pv : Addr → Nat → Hp → Prop) (h0 : ∀ D H1, H D = none → Same H H1 → H1 D = some (.lst []) → Pv D 0 H1)
    (hs : ∀ D i H1, i < n → H D = none → Pv D i H1 → g (.int (lo + i)) (wipe σ vs) H1 fun σ2 H2 => wipe σ2 vs = wipe σ vs ∧ tt σ2 H2 fun b H3 =>
      if b = true then te σ2 H3 fun y H4 => COut D y H4 (Pv D (i + 1)) else Pv D (i + 1) H3) (hd : ∀ D H1, H D = none → Pv D n H1 → Q (.ref D) H1) :
    LoopC (Itr lo n) g tt te vs σ H Q := fun D nD => lc_range (Pv D) (h0 D _ nD (same_new nD) upd_same) (fun i H1 hi p => hs D i H1 hi nD p) fun H1 p => hd D H1 nD p
theorem c_list {a : Addr} {xs : List V} {vs : List Nat} {tt : TT} (Pv : Addr → Nat → Hp → Prop) (h0 : ∀ D H1, H D = none → Same H H1 → H1 D = some (.lst []) → Pv D 0 H1) (hl : ∀ D i H1, i ≤ xs.length → H D = none → Pv D i H1 → SqL K H1 a xs)
    (hs : ∀ D i x H1, xs[i]? = some x → H D = none → Pv D i H1 → g x (wipe σ vs) H1 fun σ2 H2 => wipe σ2 vs = wipe σ vs ∧ tt σ2 H2 fun b H3 =>
      if b = true then te σ2 H3 fun y H4 => COut D y H4 (Pv D (i + 1)) else Pv D (i + 1) H3) (hd : ∀ D H1, H D = none → Pv D xs.length H1 → Q (.ref D) H1) :
    LoopC (Itl K a) g tt te vs σ H Q := fun D nD => lc_list (Pv D) (h0 D _ nD (same_new nD) upd_same) (fun i H1 hi p => hl D i H1 hi nD p) (fun i x H1 hi p => hs D i x H1 hi nD p) fun H1 p => hd D H1 nD p
theorem c_out {D : Addr} {acc : List V} {N : Hp → Prop} (e : H D = some (.lst acc)) (hz : acc.length < sizeLine) (h : ∀ H2, Chg D H H2 → H2 D = some (.lst (acc ++ [y])) → N H2) : COut D y H N := ⟨acc, e, hz, h _ chg_upd upd_same⟩
theorem s_while (W : Nat → L2.St → Hp → Prop) (m0 : Nat) (h0 : W m0 σ H) (hs : ∀ m σ H, W m σ H → c σ H fun b H1 => if b = true then KWh W m t D σ H1 else D.nx σ H1) : tWhile c t D σ H := ⟨W, ⟨m0, h0⟩, hs⟩
theorem k_while {W : Nat → L2.St → Hp → Prop} {m : Nat} (h : t ⟨fun σ' H' => ∃ m', m' < m ∧ W m' σ' H', D.rt, D.nx, fun σ' H' => ∃ m', m' < m ∧ W m' σ' H'⟩ σ H) : KWh W m t D σ H := ⟨_, fun _ _ q => q, h⟩
end
/-! ### a def of the top -/
structure DefOk (K : PySem.W.Frag) (mg : Str → Option Value) (x : Str) (st : Stmt) : Prop where
  ex : ∃ f fd, FunD K x x (defArgs st) (defBody st) (defScope st) [] [] f fd ∧ mg x = some (.ref f)
theorem cal_of {P : Program} {w : World} {K : PySem.W.Frag} {mg : Str → Option Value} {base : Heap} {x : Str} {st : Stmt} {N ps : List Str} {k : Nat} {sp : Sp} (F : DefOk K mg x st) (S : FnScope N ps (defScope st))
    (hb : ∀ f fd, FunD K x x (defArgs st) (defBody st) (defScope st) [] [] f fd → Binds K fd ps []) (len : ∀ vs H Q E, sp vs H Q E → vs.length = ps.length)
    (body : ∀ (f : Addr) (cdv : Value) (A : Around) (outer : List Env) (s : Shared) (H : Hp) (vs : List V) (Q : VK) (E : XK), Room k (A.deeper (envOfC x (defScope st) s.heap.objs.size f cdv)) → sp vs H Q E →
      ∃ t, PSs (cxOf CX0 P w K mg base N x (defScope st) f cdv A outer s H E).nox (defBody st) t ∧ t { nx := fun _ H' => Q .non H', rt := Q } (start N vs) H) : C8.Cal P w K mg base (k + 1) x sp [] := by
  obtain ⟨f, fd, F, hm⟩ := F.ex
  refine ⟨f, fd, ps, [], F.ok S len fun cdv A outer s H vs Q E hr h => ?_, hm, F.kp, hb f fd F, .nil⟩
  obtain ⟨t, h1, h2⟩ := body f cdv A outer s H vs Q E hr h
  exact ⟨t, PSs.nox h1, h2⟩
/-! ### calls without arguments -/
section
variable {X : Cx} {k j : Nat} {x : Str} {sp : Sp} {dvs : List V} {p pos : Pos}
theorem pe_c0 (c : C8.Cal X.prog X.w X.K X.mg X.base k x sp dvs) (hr : Room j X.A) (hk : k ≤ j) (hg : Gl X x) (hdb : (x == ("__debug__" : Str)) = false := by decide) :
    PE X (.Call (.Name x p) [] [] pos) (tCall sp dvs C8.E0 tNil) := by
  obtain ⟨f, fd, ps, ds, F, hm, kp, b, d⟩ := c.ex
  exact pe_call0 F (hr.mono hk) hg hm kp b d pass0 hdb
end
/-! ### a law's own hand of draws -/
def HandAt (H : Hp) (h d : Addr) : Prop := ∃ (n : Int) (ds : List Int), H h = some (.lst [.ref d, .int n]) ∧ 0 ≤ n ∧ H d = some (.lst (ds.map V.int))
/-- a draw below many -/
def spTake : Sp := fun vs H Q _ => ∃ (h d : Addr) (m : Int), vs = [.ref h, .int m] ∧ HandAt H h d ∧ 0 < m ∧ ∀ r H', 0 ≤ r → r < m → Chg h H H' → HandAt H' h d → Q (.int r) H'
theorem HandAt.ne {H : Hp} {h d : Addr} (x : HandAt H h d) : d ≠ h := by
  obtain ⟨n, ds, h1, h2, h3⟩ := x
  intro e
  subst e
  rw [h1] at h3
  cases ds <;> cases h3
theorem HandAt.same {H H' : Hp} {h d : Addr} (s : Same H H') (x : HandAt H h d) : HandAt H' h d := by
  obtain ⟨n, ds, h1, h2, h3⟩ := x
  exact ⟨n, ds, s _ _ h1, h2, s _ _ h3⟩
theorem HandAt.chg {H H' : Hp} {h d D : Addr} (c : Chg D H H') (x : HandAt H h d) (n1 : h ≠ D) (n2 : d ≠ D) : HandAt H' h d := by
  obtain ⟨n, ds, h1, h2, h3⟩ := x
  exact ⟨n, ds, c.at h1 n1, h2, c.at h3 n2⟩
theorem HandAt.new {H : Hp} {h d D : Addr} (x : HandAt H h d) (n : H D = none) : h ≠ D ∧ d ≠ D := by
  obtain ⟨_, ds, h1, h2, h3⟩ := x
  exact ⟨ne_of_none h1 n, ne_of_none h3 n⟩
/-- all but h is kept -/
def Keep (h : Addr) (H H' : Hp) : Prop := ∀ b o, b ≠ h → H b = some o → H' b = some o
theorem Keep.refl (h : Addr) (H : Hp) : Keep h H H := fun _ _ _ e => e
theorem Keep.trans {h : Addr} {H H1 H2 : Hp} (a : Keep h H H1) (b : Keep h H1 H2) : Keep h H H2 := fun c o n e => b c o n (a c o n e)
theorem Chg.keep {h : Addr} {H H' : Hp} (c : Chg h H H') : Keep h H H' := fun b o n e => c.at e n
theorem _root_.L2.Same.keep {h : Addr} {H H' : Hp} (c : Same H H') : Keep h H H' := fun b o _ e => c b o e
theorem Keep.chg {h D : Addr} {H H1 H2 : Hp} (k : Keep h H H1) (c : Chg D H1 H2) (n : H D = none) : Keep h H H2 := fun b o m e => c.at (k b o m e) (ne_of_none e n)
theorem Keep.free {h D : Addr} {H H1 : Hp} (k : Keep h H H1) (n : H1 D = none) (m : D ≠ h) : H D = none := by
  cases q : H D with
  | none => rfl
  | some o =>
    rw [k D o m q] at n
    cases n
theorem Keep.at {h b : Addr} {H H' : Hp} {o : HO} (c : Keep h H H') (e : H b = some o) (n : b ≠ h) : H' b = some o := c b o n e
theorem atI_of {α : Type} {xs : List α} {i : Int} {j : Nat} {v : α} (e : i = (j : Int)) (h : xs[j]? = some v) : atI xs i = some v := by
  subst e
  exact atI_nat h
/-! ### texts -/
theorem joinL_nil : ∀ ps : List (List Nat), TL.joinL [] ps = ps.flatten
  | [] => rfl
  | [p] => by simp [TL.joinL]
  | p :: q :: r => by
    show p ++ ([] ++ TL.joinL [] (q :: r)) = _
    rw [joinL_nil (q :: r)]
    simp
theorem join_empty (ys : List Str) : (Txt.join (Str.ofString "") ys).cps.toList = (ys.map fun y => y.cps.toList).flatten := by
  rw [TL.join_eq]
  have h := TL.tl_join (Str.ofString "") ys
  have e : TL.tl (Str.ofString "") = [] := by decide +kernel
  rw [e, joinL_nil] at h
  exact h
theorem str_len (z : Str) : z.length = z.cps.toList.length := by simp [Str.length]
theorem str_ext {x y : Str} (h : x.cps.toList = y.cps.toList) : x = y := by
  obtain ⟨a⟩ := x
  obtain ⟨b⟩ := y
  have e : a = b := Array.ext' h
  rw [e]
theorem app_len (x y : Str) : (x ++ y).length = x.length + y.length := by
  show (x.cps ++ y.cps).size = x.cps.size + y.cps.size
  simp
theorem app_tl (x y : Str) : (x ++ y).cps.toList = x.cps.toList ++ y.cps.toList := by
  show (x.cps ++ y.cps).toList = x.cps.toList ++ y.cps.toList
  simp
theorem repS_len (z : Str) (k : Int) : (repS z k).length = k.toNat * z.length := by
  unfold repS
  simp [Str.length, List.length_flatten, List.map_replicate, List.sum_replicate_nat]
theorem cutS_nat (z : Str) {i j : Nat} (hi : i ≤ z.length) (hj : j ≤ z.length) : (cutS z (some (i : Int)) (some (j : Int))).cps.toList = (z.cps.toList.drop i).take (j - i) := by
  unfold cutS
  rw [HT.sIx_nat, HT.sIx_nat, Nat.min_eq_left hi, Nat.min_eq_left hj]
theorem cutS_len2 (z : Str) (i : Nat) : (cutS z (some (i : Int)) (some ((i + 2 : Nat) : Int))).length = min (i + 2) z.length - min i z.length := by
  unfold cutS
  rw [HT.sIx_nat, HT.sIx_nat]
  show ((((z.cps.toList.drop (min i z.length)).take (min (i + 2) z.length - min i z.length)).toArray).size) = _
  rw [List.size_toArray, List.length_take, List.length_drop, Array.length_toList]
  show min _ (z.length - _) = _
  omega
/-- the place behind the longest run from i of signs in p -/
def runEnd (cs p : List Nat) (i : Nat) : Nat := i + ((cs.drop i).takeWhile fun c => decide (c ∈ p)).length
theorem runEnd_out {cs p : List Nat} {i : Nat} (h : cs.length ≤ i) : runEnd cs p i = i := by
  unfold runEnd
  rw [List.drop_of_length_le h]
  rfl
theorem runEnd_no {cs p : List Nat} {i c : Nat} (e : cs[i]? = some c) (h : c ∉ p) : runEnd cs p i = i := by
  unfold runEnd
  have hi : i < cs.length := (List.getElem?_eq_some_iff.mp e).1
  rw [List.drop_eq_getElem_cons hi, (List.getElem?_eq_some_iff.mp e).2, List.takeWhile_cons_of_neg (by simpa using h)]
  rfl
theorem runEnd_yes {cs p : List Nat} {i c : Nat} (e : cs[i]? = some c) (h : c ∈ p) : runEnd cs p i = runEnd cs p (i + 1) := by
  unfold runEnd
  have hi : i < cs.length := (List.getElem?_eq_some_iff.mp e).1
  rw [List.drop_eq_getElem_cons hi, (List.getElem?_eq_some_iff.mp e).2, List.takeWhile_cons_of_pos (by simpa using h), List.length_cons]
  omega
theorem runEnd_ge (cs p : List Nat) (i : Nat) : i ≤ runEnd cs p i := Nat.le_add_right _ _
theorem runEnd_le {cs p : List Nat} {i : Nat} (h : i ≤ cs.length) : runEnd cs p i ≤ cs.length := by
  unfold runEnd
  have h1 := (List.takeWhile_prefix (fun c => decide (c ∈ p)) (l := cs.drop i)).length_le
  rw [List.length_drop] at h1
  omega
theorem runEnd_all {cs p : List Nat} : runEnd cs p 0 = cs.length ↔ ∀ c ∈ cs, c ∈ p := by
  unfold runEnd
  rw [List.drop_zero, Nat.zero_add]
  induction cs with
  | nil => simp
  | cons a r ih =>
    by_cases h : a ∈ p
    · rw [List.takeWhile_cons_of_pos (by simpa using h), List.length_cons, List.length_cons, Nat.add_right_cancel_iff, ih]
      simp [h]
    · rw [List.takeWhile_cons_of_neg (by simpa using h)]
      simp [h]
theorem atI_cps {z : Str} {i : Nat} (h : i < z.length) : ∃ c, z.cps.toList[i]? = some c ∧ atI z.cps.toList (i : Int) = some c := by
  have h1 : i < z.cps.toList.length := by rw [← str_len]; exact h
  exact ⟨_, List.getElem?_eq_getElem h1, atI_nat (List.getElem?_eq_getElem h1)⟩
theorem small1000' {n : Nat} (h : n ≤ 100000) : n < sizeLine := Nat.lt_of_le_of_lt h (by decide)
theorem ixN_nat {n j : Nat} (h : j < n) : ixN n (j : Int) = some j := by
  unfold ixN
  rw [if_pos (by omega), if_pos (by omega)]
  simp
/-- one sign, compared -/
theorem sign_eq {c k : Nat} {y : Str} (hy : y = ⟨#[k]⟩) : decide (V.str ⟨#[c]⟩ = V.str y) = true ↔ c = k := by
  rw [decide_eq_true_iff, hy]
  constructor
  · intro e
    injection e with e
    injection e with e
    have e2 := congrArg Array.toList e
    simpa using e2
  · intro e
    rw [e]
theorem snoc_int {H : Hp} {d : Addr} {ds : List Int} {v : Int} (e : H d = some (.lst (ds.map V.int ++ [.int v]))) : ∃ ds' : List Int, H d = some (.lst (ds'.map V.int)) ∧ ds'.length = ds.length + 1 :=
  ⟨ds ++ [v], by rw [e, List.map_append]; rfl, by rw [List.length_append]; rfl⟩
/-- the items are texts of at most m signs -/
def strsB (m : Nat) (xs : List V) : Bool := xs.all fun x => match x with | .str y => decide (y.length ≤ m) | _ => false
theorem item_str (xs : List V) {m : Nat} (h : strsB m xs = true) {j : Nat} (hj : j < xs.length) : ∃ y : Str, xs[j]? = some (.str y) ∧ y.length ≤ m := by
  have h1 := List.all_eq_true.mp h xs[j] (List.getElem_mem hj)
  cases e : xs[j] with
  | str y =>
    rw [e] at h1
    exact ⟨y, by rw [List.getElem?_eq_getElem hj, e], of_decide_eq_true h1⟩
  | _ =>
    rw [e] at h1
    cases h1
theorem fn_of2 {P : Program} {w : World} {K : PySem.W.Frag} {mg : Str → Option Value} {base : Heap} {x : Str} {st : Stmt} {N ps : List Str} {k : Nat} {sp : Sp} {f : Addr} {fd : FuncData} (F : FunD K x x (defArgs st) (defBody st) (defScope st) [] [] f fd) (S : FnScope N ps (defScope st))
    (len : ∀ vs H Q E, sp vs H Q E → vs.length = ps.length)
    (body : ∀ (f : Addr) (cdv : Value) (A : Around) (outer : List Env) (s : Shared) (H : Hp) (vs : List V) (Q : VK) (E : XK), Room k (A.deeper (envOfC x (defScope st) s.heap.objs.size f cdv)) → sp vs H Q E →
      ∃ t, PSs (cxOf CX0 P w K mg base N x (defScope st) f cdv A outer s H E).nox (defBody st) t ∧ t { nx := fun _ H' => Q .non H', rt := Q } (start N vs) H) : FnOk P w K mg base CX0 (k + 1) f fd ps sp :=
  F.ok S len fun cdv A outer s H vs Q E hr h => by
    obtain ⟨t, h1, h2⟩ := body f cdv A outer s H vs Q E hr h
    exact ⟨t, PSs.nox h1, h2⟩
theorem lz {n : Nat} (h : n ≤ 1000) : n ≤ sizeLine := Nat.le_of_lt (small1000 h)
/-! ### more steps -/
def rStrI : List V → Hp → VK → Prop := fun xs H Q => ∃ i, xs = [.int i] ∧ i.natAbs.log2 < 1920 ∧ Q (.str (toString i)) H
theorem call_strI {X : Cx} : CallR X (.type "str") rStrI := call_str_int
def rLst (K : PySem.W.Frag) : List V → Hp → VK → Prop := fun xs H Q => ∃ p ys, xs = [.ref p] ∧ (SqL K H p ys ∨ SqT K H p ys) ∧ ∀ l, H l = none → Q (.ref l) (upd H l (.lst ys))
theorem call_lst {X : Cx} : CallR X (.type "list") (rLst X.K) := call_list_of
def rTpl (K : PySem.W.Frag) : List V → Hp → VK → Prop := fun xs H Q => ∃ p ys, xs = [.ref p] ∧ SqL K H p ys ∧ ∀ l, H l = none → Q (.ref l) (upd H l (.tup ys))
theorem log_small {n : Nat} (h : n < 10 ^ 40) : n.log2 < 1920 := by
  by_cases h0 : n = 0
  · subst h0
    decide
  · rw [Nat.log2_lt h0]
    exact Nat.lt_of_lt_of_le h (by decide +kernel)
def tJoined (ts : List TE) : TE := fun σ H Q => tJs ts Str.empty σ H fun out H1 => Q (.str out) H1
theorem pe_joined2 {X : Cx} {v1 v2 : Expr} {rest : List Expr} {ts : List TE} {pos : Pos} (h : PJ X (v1 :: v2 :: rest) ts) : PE X (.JoinedStr (v1 :: v2 :: rest) pos) (tJoined ts) := pe_joined h
def KJ (x : V) (acc : Str) (ts : List TE) (σ : L2.St) (H : Hp) (Q : Str → Hp → Prop) : Prop := ∃ y : Str, x = .str y ∧ (acc ++ y).length ≤ sizeLine ∧ tJs ts (acc ++ y) σ H Q
def KF (x : V) (H : Hp) (Q : VK) : Prop := (∃ y : Str, x = .str y ∧ y.length ≤ sizeLine ∧ Q (.str y) H) ∨ ∃ i : Int, x = .int i ∧ i.natAbs.log2 < 1920 ∧ Q (.str (toString i)) H
section
variable {K : PySem.W.Frag} {σ : L2.St} {H : Hp} {Q : VK} {QS : L2.St → Hp → Prop} {QJ : Str → Hp → Prop} {te : TE} {ts : List TE} {v : V} {g : TG}
theorem g_tup {u : TGs} {a : Addr} {xs : List V} {n : Nat} (hs : SqT K H a xs) (hl : xs.length = n) (h : u xs σ H QS) : gTup K n u (.ref a) σ H QS := ⟨a, xs, rfl, hs, hl, h⟩
theorem g_cons {u : TGs} {r : List V} (h : g v σ H fun σ' H' => u r σ' H' QS) : gCons g u (v :: r) σ H QS := ⟨v, r, rfl, h⟩
theorem g_nil (h : QS σ H) : gNil [] σ H QS := ⟨rfl, h⟩
theorem b_strI {i : Int} (hz : i.natAbs < 10 ^ 40) (h : Q (.str (toString i)) H) : rStrI [.int i] H Q := ⟨i, rfl, log_small hz, h⟩
theorem b_lst {a : Addr} {xs : List V} (hs : SqL K H a xs) (h : ∀ p H2, H p = none → Same H H2 → H2 p = some (.lst xs) → Q (.ref p) H2) : rLst K [.ref a] H Q := ⟨a, xs, rfl, .inl hs, new_same h⟩
theorem e_joined (h : tJs ts Str.empty σ H fun out H1 => Q (.str out) H1) : tJoined ts σ H Q := h
theorem j_nil {acc : Str} (h : QJ acc H) : tJs [] acc σ H QJ := h
theorem j_cons {acc : Str} (h : te σ H fun x H1 => KJ x acc ts σ H1 QJ) : tJs (te :: ts) acc σ H QJ := h
theorem k_j {acc y : Str} (hz : (acc ++ y).length ≤ sizeLine) (h : tJs ts (acc ++ y) σ H QJ) : KJ (.str y) acc ts σ H QJ := ⟨y, rfl, hz, h⟩
theorem e_fmt (h : te σ H fun x H1 => KF x H1 Q) : tFmt te σ H Q := h
theorem k_fS {y : Str} (hz : y.length ≤ sizeLine) (h : Q (.str y) H) : KF (.str y) H Q := .inl ⟨y, rfl, hz, h⟩
theorem k_fI {i : Int} (hz : i.natAbs < 10 ^ 40) (h : Q (.str (toString i)) H) : KF (.int i) H Q := .inr ⟨i, rfl, log_small hz, h⟩
end
/-! ### data of tuples -/
mutual
inductive Tp (H : Hp) : V → PyData → Prop
  | non : Tp H .non .none
  | bl (b : Bool) : Tp H (.bl b) (.bool b)
  | int (i : Int) : Tp H (.int i) (.int i)
  | str (x : Str) : Tp H (.str x) (.str x)
  | tup {a : Addr} {xs : List V} {ds : List PyData} : H a = some (.tup xs) → TpAll H xs ds → Tp H (.ref a) (.tuple ds)
inductive TpAll (H : Hp) : List V → List PyData → Prop
  | nil : TpAll H [] []
  | cons {v : V} {vs : List V} {d : PyData} {ds : List PyData} : Tp H v d → TpAll H vs ds → TpAll H (v :: vs) (d :: ds)
end
/-- the tuples stay -/
def TK (H H' : Hp) : Prop := ∀ a xs, H a = some (.tup xs) → H' a = some (.tup xs)
theorem TK.refl (H : Hp) : TK H H := fun _ _ e => e
theorem TK.trans {H H1 H2 : Hp} (a : TK H H1) (b : TK H1 H2) : TK H H2 := fun c xs e => b c xs (a c xs e)
theorem _root_.L2.Same.tk {H H' : Hp} (s : Same H H') : TK H H' := fun a xs e => s a _ e
theorem Chg.tk {l : Addr} {H H' : Hp} {ys : List V} (c : Chg l H H') (e : H l = some (.lst ys)) : TK H H' := fun a xs h => c.at h (ne_of h e (by intro z; cases z))
theorem Keep.tk {h : Addr} {H H' : Hp} {ys : List V} (c : Keep h H H') (e : H h = some (.lst ys)) : TK H H' := fun a xs q => c.at q (ne_of q e (by intro z; cases z))
theorem HandAt.keep_tk {h d : Addr} {H H' : Hp} (x : HandAt H h d) (c : Keep h H H') : TK H H' := by
  obtain ⟨n, ds, h1, _, _⟩ := x
  exact c.tk h1
theorem HandAt.chg_tk {h d : Addr} {H H' : Hp} (x : HandAt H h d) (c : Chg h H H') : TK H H' := x.keep_tk c.keep
mutual
theorem Tp.tk {H H' : Hp} (k : TK H H') : ∀ {d : PyData} {v : V}, Tp H v d → Tp H' v d
  | .none, _, h => by cases h; exact .non
  | .bool b, _, h => by cases h; exact .bl b
  | .int i, _, h => by cases h; exact .int i
  | .str x, _, h => by cases h; exact .str x
  | .tuple ds, _, h => by
    cases h with
    | tup e r => exact .tup (k _ _ e) (TpAll.tk k r)
  | .list _, _, h => by cases h
  | .dict _, _, h => by cases h
theorem TpAll.tk {H H' : Hp} (k : TK H H') : ∀ {ds : List PyData} {vs : List V}, TpAll H vs ds → TpAll H' vs ds
  | [], _, h => by cases h; exact .nil
  | d :: ds, _, h => by
    cases h with
    | cons h1 h2 => exact .cons (Tp.tk k h1) (TpAll.tk k h2)
end
mutual
theorem Tp.dp {K : PySem.W.Frag} {H : Hp} : ∀ {d : PyData} {v : V}, Tp H v d → Dp K H v d
  | .none, _, h => by cases h; exact .non
  | .bool b, _, h => by cases h; exact .bl b
  | .int i, _, h => by cases h; exact .int i
  | .str x, _, h => by cases h; exact .str x
  | .tuple ds, _, h => by
    cases h with
    | tup e r => exact .tup (tup_of e) (TpAll.dp r)
  | .list _, _, h => by cases h
  | .dict _, _, h => by cases h
theorem TpAll.dp {K : PySem.W.Frag} {H : Hp} : ∀ {ds : List PyData} {vs : List V}, TpAll H vs ds → DpAll K H vs ds
  | [], _, h => by cases h; exact .nil
  | d :: ds, _, h => by
    cases h with
    | cons h1 h2 => exact .cons (Tp.dp h1) (TpAll.dp h2)
end
theorem TpAll.get {H : Hp} : ∀ {vs : List V} {ds : List PyData} {i : Nat} {d : PyData}, TpAll H vs ds → ds[i]? = some d → ∃ v, vs[i]? = some v ∧ Tp H v d
  | _, _, _, _, .nil, h => by cases h
  | _, _, 0, _, .cons h1 _, h => by
    cases h
    exact ⟨_, rfl, h1⟩
  | _, _, i + 1, _, .cons _ h2, h => by
    obtain ⟨v, e, q⟩ := TpAll.get h2 (i := i) h
    exact ⟨v, e, q⟩
theorem TpAll.length {H : Hp} : ∀ {vs : List V} {ds : List PyData}, TpAll H vs ds → vs.length = ds.length
  | _, _, .nil => rfl
  | _, _, .cons _ h => by rw [List.length_cons, List.length_cons, h.length]
/-- a def that is never called so -/
theorem cal_never {P : Program} {w : World} {K : PySem.W.Frag} {mg : Str → Option Value} {base : Heap} {x : Str} {st : Stmt} {ps : List Str} {k : Nat} {sp : Sp} (F : DefOk K mg x st)
    (hb : ∀ f fd, FunD K x x (defArgs st) (defBody st) (defScope st) [] [] f fd → Binds K fd ps []) (no : ∀ vs H Q E, ¬ sp vs H Q E) : C8.Cal P w K mg base k x sp [] := by
  obtain ⟨f, fd, F, hm⟩ := F.ex
  exact ⟨f, fd, ps, [], ⟨fun vs H Q E h => absurd h (no _ _ _ _), fun A outer s H args us vs Q E hr he hb hv h => absurd h (no _ _ _ _)⟩, hm, F.kp, hb f fd F, .nil⟩
end Wy
open Wy
local macro_rules | `(tactic| walk_at "tr") => `(tactic| first | assumption | exact lst_of (by assumption) | exact tup_of (by assumption) | (refine Same.seq (by assumption) ?_; walk_at "tr") | (refine seqT (by assumption) ?_; walk_at "tr"))
local macro_rules | `(tactic| walk_at "s") => `(tactic| with_reducible first
  | refine s_seq ?_ | refine s_asg ?_ | refine g_name ?_ | refine s_ret ?_ | refine s_retN ?_ | refine s_drop ?_ | refine s_if ?_ | refine s_next ?_ | refine s_brk ?_ | refine s_ct ?_ | refine s_for ?_
  | refine e_var (by with_unfolding_all rfl) ?_ | refine e_c ?_ | refine e_op ?_ | refine e_un ?_ | refine a_cons ?_ | refine a_nil ?_ | refine c_b ?_ | refine c_call ?_ | refine t_test ?_ | refine k_bl ?_ | refine t_b ?_ | refine t_tr ?_ | refine k_trB ?_ | refine k_trN ?_ | refine k_trI ?_
  | refine t_and ?_ | refine t_or ?_ | refine t_not ?_ | refine e_andV ?_ | refine e_orV ?_ | refine e_notV ?_ | refine e_if ?_ | refine e_chain ?_ | refine e_tup ?_ | refine e_lst ?_ | refine e_sl ?_ | refine p_no ?_ | refine p_so ?_ | refine k_int ?_
  | refine m_bm ?_ | refine g_sub ?_ | refine m_m1 ?_ | refine m_st ?_ | refine e_lc ?_ | refine t_yes ?_ | refine w_r1 ?_ | refine w_r2 ?_ | refine w_l ?_ | refine w_t ?_ | refine w_s ?_ | refine k_s ?_
  | refine s_aug (by with_unfolding_all rfl) ?_ | refine i_add ?_ | refine o_addI ?_ | refine o_I0 ?_ | refine b_int ?_ | refine b_intB ?_ | refine b_abs ?_ | refine u_neg ?_ | refine o_isN ?_ | refine o_ntN ?_ | refine o_inS ?_ | refine o_niS ?_
  | refine g_cons ?_ | refine g_nil ?_ | refine e_joined ?_ | refine j_nil ?_ | refine j_cons ?_ | refine e_fmt ?_
  | refine o_mod (by omega) ?_ | refine o_fdiv (by omega) (by omega) ?_ | refine o_pow (by omega) (by omega) (by omega) ?_ | refine o_mulI2 (by omega) (by omega) ?_ | refine o_mulI1 (by omega) (by omega) ?_)
local macro_rules | `(tactic| walk_at "ss") => `(tactic| repeat walk_at "s")
namespace WM
open PySem PySem.Spec PyProof.Rows L2 Wy
abbrev LONG : List V := [.str "<=", .str ">=", .str "==", .str "!="]
abbrev RESV : List V := [.str "input", .str "from", .str "to", .str "list", .str "def", .str "let", .str "if", .str "else", .str "end", .str "while", .str "at", .str "most", .str "check", .str "refuse", .str "answer", .str "return", .str "skip", .str "and", .str "or", .str "not", .str "row", .str "yes", .str "no", .str "turn", .str "fault", .str "when", .str "then"]
/-! ### the mathematics -/
abbrev LET : Str := "abcdefghijklmnopqrstuvwxyz"
abbrev DIG : Str := "0123456789"
abbrev SHO : Str := "<>=+-()[],:"
abbrev tl (z : Str) : List Nat := z.cps.toList
/-- two signs at i that are one word -/
def pairAt (z : Str) (i : Nat) : Bool := inV (.str (cutS z (some (i : Int)) (some ((i + 2 : Nat) : Int)))) LONG
theorem pair_len {z : Str} {i : Nat} (h : pairAt z i = true) : i + 2 ≤ z.length := by
  unfold pairAt inV at h
  have hl := cutS_len2 z i
  have h2 : (cutS z (some (i : Int)) (some ((i + 2 : Nat) : Int))).length = 2 := by
    simp only [List.any_cons, List.any_nil, Bool.or_false, Bool.or_eq_true] at h
    have key : ∀ w : Str, w.length = 2 → eqV (.str w) (.str (cutS z (some (i : Int)) (some ((i + 2 : Nat) : Int)))) = true → (cutS z (some (i : Int)) (some ((i + 2 : Nat) : Int))).length = 2 := fun w hw e => by
      have e2 : (w == cutS z (some (i : Int)) (some ((i + 2 : Nat) : Int))) = true := e
      rw [← eq_of_beq e2]
      exact hw
    rcases h with h | h | h | h
    · exact key _ (by decide +kernel) h
    · exact key _ (by decide +kernel) h
    · exact key _ (by decide +kernel) h
    · exact key _ (by decide +kernel) h
  omega
/-- the place behind the word that begins at i with the sign c -/
def wordEnd (z : Str) (i c : Nat) : Nat :=
  if c ∈ tl LET then runEnd (tl z) (tl LET) i else if c ∈ tl DIG then runEnd (tl z) (tl DIG) i else if pairAt z i = true then i + 2 else if c ∈ tl SHO then i + 1 else i
theorem wordEnd_ge (z : Str) (i c : Nat) : i ≤ wordEnd z i c := by
  unfold wordEnd
  split
  · exact runEnd_ge _ _ _
  · split
    · exact runEnd_ge _ _ _
    · split
      · omega
      · split <;> omega
theorem wordEnd_le {z : Str} {i c : Nat} (e : (tl z)[i]? = some c) : wordEnd z i c ≤ z.length := by
  have hi : i < (tl z).length := (List.getElem?_eq_some_iff.mp e).1
  have hl : z.length = (tl z).length := str_len z
  unfold wordEnd
  split
  · rw [hl]
    exact runEnd_le (Nat.le_of_lt hi)
  · split
    · rw [hl]
      exact runEnd_le (Nat.le_of_lt hi)
    · split
      · rename_i h
        exact pair_len h
      · split <;> omega
def scan (z : Str) : Nat → Nat → List Str → Option (List Str)
  | 0, _, acc => some acc
  | n + 1, i, acc => match (tl z)[i]? with
    | none => some acc
    | some c => if c = 32 then scan z n (i + 1) acc else if wordEnd z i c = i then none else scan z n (wordEnd z i c) (acc ++ [cutS z (some (i : Int)) (some (wordEnd z i c : Int))])
theorem scan_out {z : Str} {n i : Nat} {acc : List Str} (h : z.length ≤ i) : scan z n i acc = some acc := by
  cases n with
  | zero => rfl
  | succ n =>
    have e : (tl z)[i]? = none := List.getElem?_eq_none_iff.mpr (by rw [str_len] at h; exact h)
    unfold scan
    rw [e]
theorem scan_fuel {z : Str} : ∀ {n m i : Nat} {acc : List Str}, z.length - i ≤ n → z.length - i ≤ m → scan z n i acc = scan z m i acc
  | 0, m, i, acc, h, _ => by
    rw [scan_out (n := m) (by omega)]
    rfl
  | n + 1, 0, i, acc, _, h => by
    rw [scan_out (n := n + 1) (by omega)]
    rfl
  | n + 1, m + 1, i, acc, h1, h2 => by
    unfold scan
    cases e : (tl z)[i]? with
    | none => rfl
    | some c =>
      have hi : i < z.length := by
        rw [str_len]
        exact (List.getElem?_eq_some_iff.mp e).1
      show (if c = 32 then _ else if _ then _ else _) = (if c = 32 then _ else if _ then _ else _)
      split
      · exact scan_fuel (by omega) (by omega)
      · split
        · rfl
        · have g := wordEnd_ge z i c
          exact scan_fuel (by omega) (by omega)
/-- the words from i on, behind those found -/
def from_ (z : Str) (i : Nat) (acc : List Str) : Option (List Str) := scan z (z.length - i) i acc
theorem from_out {z : Str} {i : Nat} {acc : List Str} (h : z.length ≤ i) : from_ z i acc = some acc := scan_out h
theorem from_step {z : Str} {i c : Nat} {acc : List Str} (e : (tl z)[i]? = some c) :
    from_ z i acc = if c = 32 then from_ z (i + 1) acc else if wordEnd z i c = i then none else from_ z (wordEnd z i c) (acc ++ [cutS z (some (i : Int)) (some (wordEnd z i c : Int))]) := by
  have hi : i < z.length := by
    rw [str_len]
    exact (List.getElem?_eq_some_iff.mp e).1
  unfold from_
  obtain ⟨n, hn⟩ : ∃ n, z.length - i = n + 1 := ⟨z.length - i - 1, by omega⟩
  rw [hn]
  show (match (tl z)[i]? with | none => some acc | some c => if c = 32 then scan z n (i + 1) acc else if wordEnd z i c = i then none else scan z n (wordEnd z i c) (acc ++ [cutS z (some (i : Int)) (some (wordEnd z i c : Int))])) = _
  rw [e]
  have g := wordEnd_ge z i c
  show (if c = 32 then _ else if _ then _ else _) = (if c = 32 then _ else if _ then _ else _)
  split
  · exact scan_fuel (by omega) (by omega)
  · split
    · rfl
    · exact scan_fuel (by omega) (by omega)
def wordsW (z : Str) : Option (List Str) := from_ z 0 []
def nameW (z : Str) : Bool := decide (1 ≤ z.length) && decide (z.length ≤ 12) && !inV (.str z) RESV && decide (∀ c ∈ tl z, c ∈ tl LET)
def numberW (z : Str) : Bool := decide (1 ≤ z.length) && decide (z.length ≤ 10) && (decide (∀ c ∈ tl z, c ∈ tl DIG)) && (decide (z.length = 1) || !decide ((tl z)[0]? = some 48))
/-! ### more of the mathematics -/
theorem scan_words {z : Str} : ∀ {n i : Nat} {acc ws : List Str}, scan z n i acc = some ws → acc.length ≤ i → i ≤ z.length → (∀ y ∈ acc, y.length ≤ z.length) → ws.length ≤ z.length ∧ ∀ y ∈ ws, y.length ≤ z.length
  | 0, i, acc, ws, h, l, hi, ha => by
    have e : acc = ws := Option.some.inj h
    rw [← e]
    exact ⟨by omega, ha⟩
  | n + 1, i, acc, ws, h, l, hi, ha => by
    unfold scan at h
    cases e : (tl z)[i]? with
    | none =>
      rw [e] at h
      have e : acc = ws := Option.some.inj h
      rw [← e]
      exact ⟨by omega, ha⟩
    | some c =>
      rw [e] at h
      have hi1 : i < z.length := by
        rw [str_len]
        exact (List.getElem?_eq_some_iff.mp e).1
      have h2 : (if c = 32 then scan z n (i + 1) acc else if wordEnd z i c = i then none else scan z n (wordEnd z i c) (acc ++ [cutS z (some (i : Int)) (some (wordEnd z i c : Int))])) = some ws := h
      have g := wordEnd_ge z i c
      split at h2
      · exact scan_words h2 (by omega) (by omega) ha
      · split at h2
        · cases h2
        · refine scan_words h2 (by rw [List.length_append]; show acc.length + 1 ≤ _; omega) (wordEnd_le e) fun y hy => ?_
          rcases List.mem_append.mp hy with hy | hy
          · exact ha y hy
          · rw [show y = _ by simpa using hy]
            exact cutS_length _ _ _
theorem wordsOf_small {z : Str} {ws : List Str} (h : wordsW z = some ws) : ws.length ≤ z.length ∧ ∀ y ∈ ws, y.length ≤ z.length :=
  scan_words h (Nat.le_refl _) (Nat.zero_le _) (by simp)
theorem pair_cps {z : Str} {i : Nat} : pairAt z i = true ↔ ∃ a, (tl z)[i]? = some a ∧ (tl z)[i + 1]? = some 61 ∧ (a = 60 ∨ a = 62 ∨ a = 61 ∨ a = 33) := by
  have key : ∀ (w : Str) (a : Nat), tl w = [a, 61] → (eqV (.str w) (.str (cutS z (some (i : Int)) (some ((i + 2 : Nat) : Int)))) = true ↔ (tl z)[i]? = some a ∧ (tl z)[i + 1]? = some 61) := fun w a hw => by
    have e1 : eqV (.str w) (.str (cutS z (some (i : Int)) (some ((i + 2 : Nat) : Int)))) = (w == cutS z (some (i : Int)) (some ((i + 2 : Nat) : Int))) := rfl
    rw [e1, beq_iff_eq]
    constructor
    · intro e
      have hl := cutS_len2 z i
      have h2 : (cutS z (some (i : Int)) (some ((i + 2 : Nat) : Int))).length = 2 := by
        rw [← e, str_len]
        show (tl w).length = 2
        rw [hw]
        rfl
      have h3 : i + 2 ≤ z.length := by omega
      have h4 := cutS_nat z (i := i) (j := i + 2) (by omega) h3
      rw [← e, show w.cps.toList = [a, 61] from hw, show i + 2 - i = 2 by omega] at h4
      have h5 : ((tl z).drop i)[0]? = some a := by
        have h6 : (((tl z).drop i).take 2)[0]? = some a := by rw [← h4]; rfl
        rw [List.getElem?_take] at h6
        simpa using h6
      have h7 : ((tl z).drop i)[1]? = some 61 := by
        have h6 : (((tl z).drop i).take 2)[1]? = some 61 := by rw [← h4]; rfl
        rw [List.getElem?_take] at h6
        simpa using h6
      rw [List.getElem?_drop] at h5 h7
      exact ⟨by simpa using h5, h7⟩
    · rintro ⟨h1, h2⟩
      have l1 := (List.getElem?_eq_some_iff.mp h1)
      have l2 := (List.getElem?_eq_some_iff.mp h2)
      obtain ⟨l1, v1⟩ := l1
      obtain ⟨l2, v2⟩ := l2
      have hz : z.length = (tl z).length := str_len z
      refine str_ext ?_
      rw [cutS_nat z (i := i) (j := i + 2) (by omega) (by omega), show w.cps.toList = [a, 61] from hw, show i + 2 - i = 2 by omega]
      show [a, 61] = List.take 2 (List.drop i (tl z))
      rw [List.drop_eq_getElem_cons l1, List.drop_eq_getElem_cons l2, v1, v2]
      rfl
  unfold pairAt inV
  simp only [List.any_cons, List.any_nil, Bool.or_false, Bool.or_eq_true]
  rw [key _ 60 (by decide +kernel), key _ 62 (by decide +kernel), key _ 61 (by decide +kernel), key _ 33 (by decide +kernel)]
  constructor
  · rintro (⟨h, h'⟩ | ⟨h, h'⟩ | ⟨h, h'⟩ | ⟨h, h'⟩)
    · exact ⟨_, h, h', by omega⟩
    · exact ⟨_, h, h', by omega⟩
    · exact ⟨_, h, h', by omega⟩
    · exact ⟨_, h, h', by omega⟩
  · rintro ⟨a, h, h', (rfl | rfl | rfl | rfl)⟩
    · exact .inl ⟨h, h'⟩
    · exact .inr (.inl ⟨h, h'⟩)
    · exact .inr (.inr (.inl ⟨h, h'⟩))
    · exact .inr (.inr (.inr ⟨h, h'⟩))
theorem space_end {z : Str} {i : Nat} (e : (tl z)[i]? = some 32) : wordEnd z i 32 = i := by
  unfold wordEnd
  rw [if_neg (by decide +kernel), if_neg (by decide +kernel), if_neg, if_neg (by decide +kernel)]
  rw [pair_cps]
  rintro ⟨a, h, _, h2⟩
  rw [e] at h
  have : 32 = a := Option.some.inj h
  omega
/-! spaces around a text -/
structure Around_ (z y : Str) (n : Nat) : Prop where
  eq : tl y = List.replicate n 32 ++ tl z ++ [32, 32]
section
variable {z y : Str} {n : Nat}
theorem Around_.at (A : Around_ z y n) {i : Nat} (h : i < (tl z).length) : (tl y)[n + i]? = (tl z)[i]? := by
  rw [A.eq, List.append_assoc, List.getElem?_append_right (by simp), List.length_replicate, Nat.add_sub_cancel_left, List.getElem?_append_left h]
theorem Around_.behind (A : Around_ z y n) {i : Nat} (h : i = (tl z).length ∨ i = (tl z).length + 1) : (tl y)[n + i]? = some 32 := by
  rw [A.eq, List.append_assoc, List.getElem?_append_right (by simp), List.length_replicate, Nat.add_sub_cancel_left, List.getElem?_append_right (by omega)]
  rcases h with rfl | rfl
  · simp
  · rw [Nat.add_sub_cancel_left]
    rfl
theorem Around_.ahead (A : Around_ z y n) {i : Nat} (h : i < n) : (tl y)[i]? = some 32 := by
  rw [A.eq, List.append_assoc, List.getElem?_append_left (by simpa using h), List.getElem?_replicate, if_pos h]
theorem Around_.len (A : Around_ z y n) : y.length = n + z.length + 2 := by
  have hz : z.length = (tl z).length := str_len z
  have hy : y.length = (tl y).length := str_len y
  rw [hy, hz, A.eq, List.length_append, List.length_append, List.length_replicate]
  rfl
theorem Around_.run (A : Around_ z y n) {p : List Nat} (hp : 32 ∉ p) : ∀ {k i : Nat}, k = (tl z).length - i → i ≤ (tl z).length → runEnd (tl y) p (n + i) = n + runEnd (tl z) p i
  | 0, i, hk, hi => by
    have e : i = (tl z).length := by omega
    rw [runEnd_out (cs := tl z) (by omega), runEnd_no (A.behind (.inl e)) hp]
  | k + 1, i, hk, hi => by
    have hi2 : i < (tl z).length := by omega
    have g := A.at hi2
    have e := List.getElem?_eq_getElem hi2
    rw [e] at g
    by_cases h : (tl z)[i] ∈ p
    · rw [runEnd_yes g h, runEnd_yes e h, Nat.add_assoc, A.run hp (k := k) (by omega) (by omega)]
    · rw [runEnd_no g h, runEnd_no e h]
theorem Around_.pair (A : Around_ z y n) {i : Nat} (h : i < (tl z).length) : pairAt y (n + i) = pairAt z i := by
  rw [Bool.eq_iff_iff, pair_cps, pair_cps, A.at h]
  by_cases h2 : i + 1 < (tl z).length
  · rw [Nat.add_assoc, A.at h2]
  · have e1 : (tl y)[n + i + 1]? = some 32 := by
      rw [Nat.add_assoc]
      exact A.behind (.inl (by omega))
    have e2 : (tl z)[i + 1]? = none := List.getElem?_eq_none_iff.mpr (by omega)
    rw [e1, e2]
    constructor
    · rintro ⟨a, _, h, _⟩
      cases h
    · rintro ⟨a, _, h, _⟩
      cases h
theorem Around_.word (A : Around_ z y n) {i c : Nat} (h : i < (tl z).length) : wordEnd y (n + i) c = n + wordEnd z i c := by
  unfold wordEnd
  rw [A.pair h, A.run (by decide +kernel) rfl (Nat.le_of_lt h), A.run (by decide +kernel) rfl (Nat.le_of_lt h)]
  split
  · rfl
  · split
    · rfl
    · split
      · omega
      · split <;> omega
theorem Around_.cut (A : Around_ z y n) {i j : Nat} (h : i ≤ j) (hj : j ≤ z.length) : cutS y (some ((n + i : Nat) : Int)) (some ((n + j : Nat) : Int)) = cutS z (some (i : Int)) (some (j : Int)) := by
  have hl := A.len
  have hz : z.length = (tl z).length := str_len z
  refine str_ext ?_
  rw [cutS_nat y (by omega) (by omega), cutS_nat z (by omega) hj]
  show List.take (n + j - (n + i)) (List.drop (n + i) (tl y)) = List.take (j - i) (List.drop i (tl z))
  rw [A.eq, List.append_assoc, List.drop_append, List.drop_of_length_le (by simp), List.nil_append, List.length_replicate, Nat.add_sub_cancel_left, List.drop_append_of_le_length (by omega), List.take_append_of_le_length (by rw [List.length_drop]; omega), show n + j - (n + i) = j - i by omega]
theorem Around_.go (A : Around_ z y n) : ∀ {k i : Nat} {acc : List Str}, k = z.length - i → i ≤ z.length → from_ y (n + i) acc = from_ z i acc := by
  have hz : z.length = (tl z).length := str_len z
  have hl := A.len
  intro k
  induction k using Nat.strongRecOn with
  | _ k ih =>
    intro i acc hk hi
    by_cases hlt : i < (tl z).length
    · have e := List.getElem?_eq_getElem hlt
      have g := A.at hlt
      rw [e] at g
      rw [from_step g, from_step e, A.word hlt]
      have w1 := wordEnd_ge z i (tl z)[i]
      have w2 := wordEnd_le e
      split
      · rw [Nat.add_assoc]
        exact ih _ (by omega) rfl (by omega)
      · by_cases h2 : wordEnd z i (tl z)[i] = i
        · rw [if_pos (by omega), if_pos h2]
        · rw [if_neg (by omega), if_neg h2, A.cut w1 w2]
          exact ih _ (by omega) rfl (by omega)
    · have e : i = (tl z).length := by omega
      rw [from_step (A.behind (.inl e)), if_pos rfl, Nat.add_assoc, from_step (A.behind (.inr (by omega))), if_pos rfl, from_out (by omega), from_out (by omega)]
theorem Around_.words (A : Around_ z y n) : wordsW y = wordsW z := by
  have hl := A.len
  have h : ∀ m, m ≤ n → from_ y m [] = from_ y 0 [] := fun m => by
    induction m with
    | zero => intro _; rfl
    | succ m ih =>
      intro hm
      rw [← ih (by omega), from_step (i := m) (A.ahead (by omega)), if_pos rfl]
  unfold wordsW
  rw [← h n (Nat.le_refl _)]
  exact A.go (i := 0) rfl (Nat.zero_le _)
end
theorem around_mk (z : Str) (k : Int) : Around_ z (repS (" " : Str) k ++ z ++ ("  " : Str)) k.toNat := by
  refine ⟨?_⟩
  show ((repS (" " : Str) k ++ z ++ ("  " : Str)) : Str).cps.toList = _
  rw [app_tl, app_tl]
  have e1 : (repS (" " : Str) k).cps.toList = List.replicate k.toNat 32 := by
    unfold repS
    have e : ((" " : Str)).cps.toList = [32] := by decide +kernel
    rw [e]
    simp
  have e2 : (("  " : Str)).cps.toList = [32, 32] := by decide +kernel
  rw [e1, e2]
/-! ### the words by what is left -/
def mkS (l : List Nat) : Str := ⟨l.toArray⟩
theorem mkS_tl (l : List Nat) : tl (mkS l) = l := by simp [mkS]
theorem tl_mkS (z : Str) : mkS (tl z) = z := str_ext (by simp [mkS])
abbrev EQS : List Nat := [60, 62, 61, 33]
def wordLen : List Nat → Nat
  | [] => 0
  | c :: r => if c ∈ tl LET then 1 + (r.takeWhile fun d => decide (d ∈ tl LET)).length else if c ∈ tl DIG then 1 + (r.takeWhile fun d => decide (d ∈ tl DIG)).length
    else if r.head? = some 61 ∧ c ∈ EQS then 2 else if c ∈ tl SHO then 1 else 0
theorem wordLen_cons (c : Nat) (r : List Nat) : wordLen (c :: r) = if c ∈ tl LET then 1 + (r.takeWhile fun d => decide (d ∈ tl LET)).length else if c ∈ tl DIG then 1 + (r.takeWhile fun d => decide (d ∈ tl DIG)).length
    else if r.head? = some 61 ∧ c ∈ EQS then 2 else if c ∈ tl SHO then 1 else 0 := rfl
theorem wordLen_le : ∀ l : List Nat, wordLen l ≤ l.length
  | [] => Nat.le_refl _
  | c :: r => by
    show (if c ∈ tl LET then _ else if c ∈ tl DIG then _ else if r.head? = some 61 ∧ c ∈ EQS then 2 else if c ∈ tl SHO then 1 else 0) ≤ (c :: r).length
    have h : ∀ p : Nat → Bool, (r.takeWhile p).length ≤ r.length := fun p => (List.takeWhile_prefix p).length_le
    have h1 := h fun d => decide (d ∈ tl LET)
    have h2 := h fun d => decide (d ∈ tl DIG)
    rw [List.length_cons]
    split
    · omega
    · split
      · omega
      · split
        · rename_i h3
          cases r with
          | nil => simp at h3
          | cons x r => rw [List.length_cons]; omega
        · split <;> omega
theorem wordEnd_len {z : Str} {i c : Nat} (e : (tl z)[i]? = some c) : wordEnd z i c = i + wordLen ((tl z).drop i) := by
  obtain ⟨hi, v⟩ := List.getElem?_eq_some_iff.mp e
  rw [List.drop_eq_getElem_cons hi, v]
  unfold wordEnd
  rw [wordLen_cons]
  have hp : pairAt z i = true ↔ ((tl z).drop (i + 1)).head? = some 61 ∧ c ∈ EQS := by
    rw [pair_cps, List.head?_drop, e]
    constructor
    · rintro ⟨a, h1, h2, h3⟩
      have h1 := Option.some.inj h1
      subst h1
      refine ⟨h2, ?_⟩
      simp only [List.mem_cons, List.not_mem_nil, or_false]
      omega
    · rintro ⟨h1, h2⟩
      refine ⟨c, rfl, h1, ?_⟩
      simp only [List.mem_cons, List.not_mem_nil, or_false] at h2
      omega
  have hr : ∀ p : List Nat, c ∈ p → runEnd (tl z) p i = i + (1 + (((tl z).drop (i + 1)).takeWhile fun d => decide (d ∈ p)).length) := fun p h => by
    unfold runEnd
    rw [List.drop_eq_getElem_cons hi, v, List.takeWhile_cons_of_pos (by simpa using h), List.length_cons]
    omega
  by_cases h1 : c ∈ tl LET
  · rw [if_pos h1, if_pos h1, hr _ h1]
  · rw [if_neg h1, if_neg h1]
    by_cases h2 : c ∈ tl DIG
    · rw [if_pos h2, if_pos h2, hr _ h2]
    · rw [if_neg h2, if_neg h2]
      by_cases h3 : pairAt z i = true
      · rw [if_pos h3, if_pos (hp.mp h3)]
      · rw [if_neg h3, if_neg (fun h => h3 (hp.mpr h))]
        split <;> rfl
def lex : Nat → List Nat → Option (List (List Nat))
  | 0, _ => some []
  | _ + 1, [] => some []
  | n + 1, c :: r => if c = 32 then lex n r else if wordLen (c :: r) = 0 then none else (lex n ((c :: r).drop (wordLen (c :: r)))).map ((c :: r).take (wordLen (c :: r)) :: ·)
theorem lex_nil (n : Nat) : lex n [] = some [] := by
  cases n <;> rfl
theorem lex_fuel : ∀ {n m : Nat} {l : List Nat}, l.length ≤ n → l.length ≤ m → lex n l = lex m l
  | 0, m, l, h, _ => by
    have e : l = [] := List.length_eq_zero_iff.mp (by omega)
    subst e
    rw [lex_nil, lex_nil]
  | n + 1, 0, l, _, h => by
    have e : l = [] := List.length_eq_zero_iff.mp (by omega)
    subst e
    rw [lex_nil, lex_nil]
  | n + 1, m + 1, [], _, _ => rfl
  | n + 1, m + 1, c :: r, h1, h2 => by
    rw [List.length_cons] at h1 h2
    unfold lex
    split
    · exact lex_fuel (by omega) (by omega)
    · split
      · rfl
      · rename_i h3
        have hd : ((c :: r).drop (wordLen (c :: r))).length ≤ r.length := by
          rw [List.length_drop, List.length_cons]
          omega
        rw [lex_fuel (n := n) (m := m) (by omega) (by omega)]
def lexL (l : List Nat) : Option (List (List Nat)) := lex l.length l
theorem lexL_nil : lexL [] = some [] := rfl
theorem lexL_space (r : List Nat) : lexL (32 :: r) = lexL r := by
  rfl
theorem lexL_word {c : Nat} {r : List Nat} (h : c ≠ 32) : lexL (c :: r) = if wordLen (c :: r) = 0 then none else (lexL ((c :: r).drop (wordLen (c :: r)))).map ((c :: r).take (wordLen (c :: r)) :: ·) := by
  show (if c = 32 then lex r.length r else if wordLen (c :: r) = 0 then none else (lex r.length ((c :: r).drop (wordLen (c :: r)))).map ((c :: r).take (wordLen (c :: r)) :: ·)) = _
  rw [if_neg h]
  split
  · rfl
  · rename_i h3
    have hd : ((c :: r).drop (wordLen (c :: r))).length ≤ r.length := by
      rw [List.length_drop, List.length_cons]
      omega
    unfold lexL
    rw [lex_fuel hd (Nat.le_refl _)]
theorem lexL_spaces : ∀ (n : Nat) (r : List Nat), lexL (List.replicate n 32 ++ r) = lexL r
  | 0, r => rfl
  | n + 1, r => by
    rw [List.replicate_succ, List.cons_append, lexL_space, lexL_spaces n r]
theorem from_lex {z : Str} : ∀ {k i : Nat} {acc : List Str}, k = z.length - i → i ≤ z.length → from_ z i acc = (lexL ((tl z).drop i)).map fun ws => acc ++ ws.map mkS := by
  have hz : z.length = (tl z).length := str_len z
  intro k
  induction k using Nat.strongRecOn with
  | _ k ih =>
    intro i acc hk hi
    by_cases hlt : i < (tl z).length
    · have e := List.getElem?_eq_getElem hlt
      have hd := List.drop_eq_getElem_cons hlt
      rw [from_step e, wordEnd_len e]
      have w := wordLen_le ((tl z).drop i)
      rw [List.length_drop] at w
      by_cases h : (tl z)[i] = 32
      · rw [if_pos h, hd, h, lexL_space]
        exact ih _ (by omega) rfl (by omega)
      · rw [if_neg h]
        have hx : lexL ((tl z).drop i) = if wordLen ((tl z).drop i) = 0 then none else (lexL (((tl z).drop i).drop (wordLen ((tl z).drop i)))).map (((tl z).drop i).take (wordLen ((tl z).drop i)) :: ·) := by
          rw [hd]
          exact lexL_word h
        rw [hx]
        by_cases h2 : wordLen ((tl z).drop i) = 0
        · rw [if_pos (by omega), if_pos h2]
          rfl
        · rw [if_neg (by omega), if_neg h2, ih _ (by omega) rfl (by omega), List.drop_drop, Option.map_map]
          congr 1
          funext ws
          show acc ++ [_] ++ ws.map mkS = acc ++ (_ :: ws.map mkS)
          rw [List.append_assoc]
          congr 1
          show _ :: ws.map mkS = _ :: ws.map mkS
          congr 1
          refine str_ext ?_
          have e3 := cutS_nat z (i := i) (j := i + wordLen ((tl z).drop i)) (by omega) (by omega)
          rw [e3, Nat.add_sub_cancel_left, show (mkS _).cps.toList = _ from mkS_tl _]
    · have e : i = (tl z).length := by omega
      rw [from_out (by omega), List.drop_of_length_le (by omega)]
      show some acc = some (acc ++ [])
      rw [List.append_nil]
theorem words_lex (z : Str) : wordsW z = (lexL (tl z)).map (·.map mkS) := by
  unfold wordsW
  rw [from_lex (i := 0) rfl (Nat.zero_le _), List.drop_zero]
  congr 1
/-- a text that is one word -/
def joinsC (a c : Nat) : Prop := (a ∈ tl LET ∧ c ∈ tl LET) ∨ (a ∈ tl DIG ∧ c ∈ tl DIG) ∨ (a ∈ EQS ∧ c ∈ EQS)
def okNext (w rest : List Nat) : Prop := rest = [] ∨ ∃ a c r, w.getLast? = some a ∧ rest = c :: r ∧ ¬ joinsC a c
structure IsTok (w : List Nat) : Prop where
  ne : ∃ c r, w = c :: r ∧ c ≠ 32
  len : ∀ rest, okNext w rest → wordLen (w ++ rest) = w.length
theorem lexL_tok {w rest : List Nat} (h : IsTok w) (n : okNext w rest) : lexL (w ++ rest) = (lexL rest).map (w :: ·) := by
  obtain ⟨c, r, e, hc⟩ := h.ne
  have hl := h.len rest n
  subst e
  rw [List.cons_append] at hl ⊢
  rw [lexL_word hc, hl, if_neg (by simp)]
  have e1 : (c :: (r ++ rest)).drop (c :: r).length = rest := by
    rw [← List.cons_append, List.drop_left]
  have e2 : (c :: (r ++ rest)).take (c :: r).length = c :: r := by
    rw [← List.cons_append, List.take_left]
  rw [e1, e2]
theorem takeWhile_run {p : Nat → Bool} {w rest : List Nat} (h : ∀ c ∈ w, p c = true) (n : rest = [] ∨ ∃ c r, rest = c :: r ∧ p c = false) : (w ++ rest).takeWhile p = w := by
  induction w with
  | nil =>
    rcases n with rfl | ⟨c, r, rfl, h2⟩
    · rfl
    · rw [List.nil_append, List.takeWhile_cons_of_neg (by rw [h2]; simp)]
  | cons x w ih =>
    rw [List.cons_append, List.takeWhile_cons_of_pos (h x List.mem_cons_self), ih fun c hc => h c (List.mem_cons_of_mem _ hc)]
theorem getLast_mem' {w : List Nat} {a : Nat} (h : w.getLast? = some a) : a ∈ w := List.mem_of_getLast? h
theorem let32 : ∀ c ∈ tl LET, c ≠ 32 := by decide +kernel
theorem dig32 : ∀ c ∈ tl DIG, c ≠ 32 ∧ c ∉ tl LET := by decide +kernel
theorem sho32 : ∀ c ∈ tl SHO, c ≠ 32 ∧ c ∉ tl LET ∧ c ∉ tl DIG := by decide +kernel
theorem eqs32 : ∀ c ∈ EQS, c ≠ 32 ∧ c ∉ tl LET ∧ c ∉ tl DIG := by decide +kernel
theorem tok_let {w : List Nat} (ne : w ≠ []) (h : ∀ c ∈ w, c ∈ tl LET) : IsTok w := by
  obtain ⟨c, r, rfl⟩ := List.exists_cons_of_ne_nil ne
  have hc := h c List.mem_cons_self
  refine ⟨⟨c, r, rfl, let32 c hc⟩, fun rest n => ?_⟩
  rw [List.cons_append]
  rw [wordLen_cons]
  rw [if_pos hc, takeWhile_run (w := r) (fun d hd => by simpa using h d (List.mem_cons_of_mem _ hd)), List.length_cons, Nat.add_comm]
  rcases n with rfl | ⟨a, d, q, ha, rfl, hn⟩
  · exact .inl rfl
  · exact .inr ⟨d, q, rfl, decide_eq_false fun hd => hn (.inl ⟨h a (getLast_mem' ha), hd⟩)⟩
theorem tok_dig {w : List Nat} (ne : w ≠ []) (h : ∀ c ∈ w, c ∈ tl DIG) : IsTok w := by
  obtain ⟨c, r, rfl⟩ := List.exists_cons_of_ne_nil ne
  have hc := h c List.mem_cons_self
  refine ⟨⟨c, r, rfl, (dig32 c hc).1⟩, fun rest n => ?_⟩
  rw [List.cons_append]
  rw [wordLen_cons]
  rw [if_neg (dig32 c hc).2, if_pos hc, takeWhile_run (w := r) (fun d hd => by simpa using h d (List.mem_cons_of_mem _ hd)), List.length_cons, Nat.add_comm]
  rcases n with rfl | ⟨a, d, q, ha, rfl, hn⟩
  · exact .inl rfl
  · exact .inr ⟨d, q, rfl, decide_eq_false fun hd => hn (.inr (.inl ⟨h a (getLast_mem' ha), hd⟩))⟩
theorem tok_one {c : Nat} (h : c ∈ tl SHO) : IsTok [c] := by
  obtain ⟨h1, h2, h3⟩ := sho32 c h
  refine ⟨⟨c, [], rfl, h1⟩, fun rest n => ?_⟩
  show wordLen (c :: rest) = 1
  rw [wordLen_cons]
  rw [if_neg h2, if_neg h3, if_neg, if_pos h]
  rintro ⟨h4, h5⟩
  rcases n with rfl | ⟨a, d, q, ha, rfl, hn⟩
  · cases h4
  · have e1 : d = 61 := Option.some.inj h4
    have e2 : c = a := Option.some.inj ha
    exact hn (.inr (.inr ⟨e2 ▸ h5, by rw [e1]; decide⟩))
theorem tok_two {c : Nat} (h : c ∈ EQS) : IsTok [c, 61] := by
  obtain ⟨h1, h2, h3⟩ := eqs32 c h
  refine ⟨⟨c, [61], rfl, h1⟩, fun rest n => ?_⟩
  show wordLen (c :: 61 :: rest) = 2
  rw [wordLen_cons]
  rw [if_neg h2, if_neg h3, if_pos ⟨rfl, h⟩]
end WM
namespace W3
open PySem PySem.Spec PyProof.Rows L2 Wy WM
/-! ### numbers as words -/
def dv (z : Str) : Int := ((NumText.digitsVal (tl z) : Nat) : Int)
theorem dig_range : ∀ c ∈ tl DIG, 48 ≤ c ∧ c ≤ 57 := by decide +kernel
theorem dig_mem {c : Nat} (h : 48 ≤ c ∧ c ≤ 57) : c ∈ tl DIG := by
  have : ∀ k, k < 10 → 48 + k ∈ tl DIG := by decide +kernel
  have e := this (c - 48) (by omega)
  rwa [show 48 + (c - 48) = c by omega] at e
theorem number_parts {z : Str} (h : numberW z = true) : 1 ≤ z.length ∧ z.length ≤ 10 ∧ (∀ c ∈ tl z, c ∈ tl DIG) := by
  unfold numberW at h
  simp only [Bool.and_eq_true, decide_eq_true_eq] at h
  exact ⟨h.1.1.1, h.1.1.2, h.1.2⟩
theorem ne_of_len {z : Str} (h : 1 ≤ z.length) : tl z ≠ [] := by
  intro e
  rw [str_len] at h
  rw [show z.cps.toList = [] from e] at h
  simp at h
theorem number_int {z : Str} (h : numberW z = true) : intText? z = some (dv z) ∧ z.length ≤ 640 := by
  obtain ⟨h1, h2, h3⟩ := number_parts h
  exact ⟨intText_digits (fun c hc => dig_range c (h3 c hc)) (ne_of_len h1) (by omega), by omega⟩
theorem minus_int {z : Str} (h : numberW z = true) : intText? (("-" : Str) ++ z) = some (-dv z) ∧ (("-" : Str) ++ z).length ≤ 640 := by
  obtain ⟨h1, h2, h3⟩ := number_parts h
  have hl : (("-" : Str) ++ z).length = 1 + z.length := app_len _ _
  exact ⟨intText_neg (cs := tl z) (by rw [app_tl]; rfl) (fun c hc => dig_range c (h3 c hc)) (ne_of_len h1) (by omega), by omega⟩
open NumText in
theorem plus_int {z : Str} (h : numberW z = true) : intText? (("+" : Str) ++ z) = some (dv z) ∧ (("+" : Str) ++ z).length ≤ 640 := by
  obtain ⟨g1, g2, g3⟩ := number_parts h
  have hl : (("+" : Str) ++ z).length = 1 + z.length := app_len _ _
  have hd : AllDigits (tl z) := fun c hc => dig_range c (g3 c hc)
  have hx : (("+" : Str) ++ z).cps.toList = 43 :: tl z := by rw [app_tl]; rfl
  have h1 : tl z ≠ [] := ne_of_len g1
  refine ⟨?_, by omega⟩
  have lo : ∀ c ∈ (("+" : Str) ++ z).cps.toList, c ≠ 0 ∧ c < 128 := by
    rw [hx]
    intro c hc
    rcases List.mem_cons.mp hc with e | hc
    · omega
    · have := hd c hc
      omega
  have e1 : numTextOf (("+" : Str) ++ z) = (("+" : Str) ++ z).cps.toList := if_pos (by
    rw [← Array.all_toList, List.all_eq_true]
    exact fun c hc => decide_eq_true (lo c hc).2)
  have e2 : numSeenOf (("+" : Str) ++ z) = (("+" : Str) ++ z).cps.toList := by
    show (numTextOf (("+" : Str) ++ z)).takeWhile _ = _
    rw [e1]
    exact takeWhile_all fun c hc => bne_iff_ne.mpr (lo c hc).1
  have es : sign ((43 :: tl z).dropWhile blank) = (false, tl z) := by rw [dropWhile_of (by decide)]; rfl
  have ec : core (43 :: tl z) = tl z := by
    unfold core
    rw [es]
    show ((tl z).reverse.dropWhile blank).reverse = tl z
    rw [dropWhile_digits hd.reverse, List.reverse_reverse]
  unfold intText?
  rw [e1, e2, hx, if_pos (beq_self_eq_true _), ec, es, digits_of hd h1]
  have hsz := push_size (tl z) #[]
  have hv := push_foldl (tl z) #[]
  have hzl : (tl z).length = z.length := (str_len z).symm
  show (if _ ≤ 4300 then some (worth false _) else none) = _
  rw [if_pos (by rw [hsz]; simp only [Array.size_empty]; omega)]
  unfold worth dv digitsVal
  rw [hv]
  rfl
/-- a number's text -/
def numS (n : Nat) : Str := Str.ofString (toString ((n : Nat) : Int))
theorem numS_tl (n : Nat) : tl (numS n) = TL.numL n := TL.tl_num n
theorem numL_head {n : Nat} (h : 0 < n) : (TL.numL n)[0]? ≠ some 48 := by
  induction n using Nat.strongRecOn with
  | _ n ih =>
    by_cases h10 : n < 10
    · rw [TL.numL_lt h10]
      intro e
      have : 48 + n = 48 := Option.some.inj e
      omega
    · rw [TL.numL_step (by omega)]
      intro e
      have hne := TL.numL_ne (n / 10)
      rw [List.getElem?_append_left (List.length_pos_iff.mpr hne)] at e
      exact ih (n / 10) (by omega) (by omega) e
theorem numS_len {n : Nat} (h : n < 10 ^ 10) : 1 ≤ (numS n).length ∧ (numS n).length ≤ 10 := by
  rw [str_len]
  show 1 ≤ (tl (numS n)).length ∧ (tl (numS n)).length ≤ 10
  rw [numS_tl]
  exact ⟨List.length_pos_iff.mpr (TL.numL_ne n), TL.numL_len (by decide) h⟩
theorem numS_number {n : Nat} (h : n < 10 ^ 10) : numberW (numS n) = true := by
  obtain ⟨h1, h2⟩ := numS_len h
  unfold numberW
  rw [decide_eq_true h1, decide_eq_true h2, numS_tl, decide_eq_true (fun c hc => dig_mem (TL.numL_digits n c hc))]
  by_cases h0 : n = 0
  · subst h0
    decide +kernel
  · rw [decide_eq_false (numL_head (by omega))]
    simp
theorem numS_dv (n : Nat) : dv (numS n) = n := by
  unfold dv
  rw [numS_tl, TL.numL_val]
theorem toStr_nat {i : Int} (h : 0 ≤ i) : Str.ofString (toString i) = numS i.toNat := by
  unfold numS
  rw [Int.toNat_of_nonneg h]
theorem name_parts {z : Str} (h : nameW z = true) : 1 ≤ z.length ∧ z.length ≤ 12 ∧ inV (.str z) RESV = false ∧ ∀ c ∈ tl z, c ∈ tl LET := by
  unfold nameW at h
  simp only [Bool.and_eq_true, decide_eq_true_eq, Bool.not_eq_true'] at h
  exact ⟨h.1.1.1, h.1.1.2, h.1.2, h.2⟩
theorem name_not_number {z : Str} (h : nameW z = true) : numberW z = false := by
  cases e : numberW z with
  | false => rfl
  | true =>
    obtain ⟨h1, _, _, h4⟩ := name_parts h
    obtain ⟨_, _, g3⟩ := number_parts e
    obtain ⟨c, r, e⟩ := List.exists_cons_of_ne_nil (ne_of_len h1)
    have a := h4 c (by rw [e]; exact List.mem_cons_self)
    have b := g3 c (by rw [e]; exact List.mem_cons_self)
    exact absurd a (dig32 c b).2
theorem name_ne {z y : Str} (h : nameW z = true) (hy : nameW y = false) : z ≠ y := by
  intro e
  rw [e, hy] at h
  cases h
theorem number_ne {z y : Str} (h : numberW z = true) (hy : numberW y = false) : z ≠ y := by
  intro e
  rw [e, hy] at h
  cases h
/-! ### expressions -/
inductive Ex where
  | num (n : Int)
  | var (x : Str) (p : Int)
  | item (x : Str) (i : Ex) (p : Int)
  deriving DecidableEq
def Ex.d : Ex → PyData
  | .num n => .tuple [.str "num", .int n]
  | .var x p => .tuple [.str "var", .str x, .int p]
  | .item x i p => .tuple [.str "item", .str x, i.d, .int p]
def wordAt (ws : List Str) (i : Nat) : Str := ws.getD i ""
def takeSigned (ws : List Str) (i : Nat) : Option (Int × Nat) :=
  if numberW (wordAt ws i) = true then some (dv (wordAt ws i), i + 1) else if wordAt ws i = "-" ∧ numberW (wordAt ws (i + 1)) = true then some (-dv (wordAt ws (i + 1)), i + 2) else none
def takePlus (ws : List Str) (i : Nat) : Option (Int × Nat) :=
  if wordAt ws i = "+" ∨ wordAt ws i = "-" then (if numberW (wordAt ws (i + 1)) = true then some (if wordAt ws i = "+" then dv (wordAt ws (i + 1)) else -dv (wordAt ws (i + 1)), i + 2) else none) else some (0, i)
def takePlain (ws : List Str) (i : Nat) : Option (Ex × Nat) :=
  if nameW (wordAt ws i) = true then (match takePlus ws (i + 1) with | none => none | some (p, j) => some (.var (wordAt ws i) p, j))
  else (match takeSigned ws i with | none => none | some (n, j) => some (.num n, j))
def takeExpr (ws : List Str) (i : Nat) : Option (Ex × Nat) :=
  if nameW (wordAt ws i) = true ∧ wordAt ws (i + 1) = "[" then (match takePlain ws (i + 2) with
    | none => none
    | some (x, j) => if wordAt ws j = "]" then (match takePlus ws (j + 1) with | none => none | some (p, k) => some (.item (wordAt ws i) x p, k)) else none)
  else takePlain ws i
def wholeE (t : Option (Ex × Nat)) (n : Nat) : Option Ex := match t with
  | none => none
  | some (e, j) => if j = n then some e else none
def readW (ws : List Str) : Option Ex := wholeE (takeExpr ws 0) ws.length
def iD : Option (Int × Nat) → PyData
  | none => .none
  | some (n, j) => .tuple [.int n, .int (j : Int)]
def eD : Option (Ex × Nat) → PyData
  | none => .none
  | some (e, j) => .tuple [e.d, .int (j : Int)]
def oD : Option Ex → PyData
  | none => .none
  | some e => e.d
theorem wordAt_in {ws : List Str} {i : Nat} (h : i < ws.length) : wordAt ws i = ws[i] := by
  unfold wordAt
  rw [List.getD_eq_getElem?_getD, List.getElem?_eq_getElem h]
  rfl
theorem wordAt_out {ws : List Str} {i : Nat} (h : ws.length ≤ i) : wordAt ws i = "" := by
  unfold wordAt
  rw [List.getD_eq_getElem?_getD, List.getElem?_eq_none h]
  rfl
theorem wordAt_lt {ws : List Str} {i : Nat} (h : wordAt ws i ≠ "") : i < ws.length := by
  by_cases hi : i < ws.length
  · exact hi
  · exact absurd (wordAt_out (by omega)) h
theorem no_num : numberW ("" : Str) = false := by decide +kernel
theorem no_name : nameW ("" : Str) = false := by decide +kernel
theorem number_lt {ws : List Str} {i : Nat} (h : numberW (wordAt ws i) = true) : i < ws.length := wordAt_lt (number_ne h no_num)
theorem name_lt {ws : List Str} {i : Nat} (h : nameW (wordAt ws i) = true) : i < ws.length := wordAt_lt (name_ne h no_name)
structure SmallW (ws : List Str) : Prop where
  len : ws.length ≤ 10000
  each : ∀ y ∈ ws, y.length ≤ 10000
theorem SmallW.at {ws : List Str} (s : SmallW ws) (i : Nat) : (wordAt ws i).length ≤ 10000 := by
  by_cases hi : i < ws.length
  · rw [wordAt_in hi]
    exact s.each _ (List.getElem_mem hi)
  · rw [wordAt_out (by omega)]
    exact Nat.zero_le _
theorem SmallW.at6 {ws : List Str} (s : SmallW ws) (i : Nat) : (wordAt ws i).length ≤ 1000000 := Nat.le_trans (s.at i) (by decide)
theorem dv_bound {z : Str} (h : numberW z = true) : 0 ≤ dv z ∧ dv z < 10 ^ 10 := by
  obtain ⟨h1, h2, h3⟩ := number_parts h
  refine ⟨Int.natCast_nonneg _, ?_⟩
  have key : ∀ (cs : List Nat) (acc : Nat), (∀ c ∈ cs, c ≤ 57) → cs.foldl (fun acc c => acc * 10 + (c - 48)) acc < (acc + 1) * 10 ^ cs.length := by
    intro cs
    induction cs with
    | nil => intro acc _; simp
    | cons c cs ih =>
      intro acc h
      have h1 := ih (acc * 10 + (c - 48)) (fun d hd => h d (List.mem_cons_of_mem _ hd))
      have h2 := h c List.mem_cons_self
      rw [List.foldl_cons, List.length_cons, Nat.pow_succ']
      refine Nat.lt_of_lt_of_le h1 ?_
      rw [← Nat.mul_assoc]
      exact Nat.mul_le_mul_right _ (by omega)
  have h5 := key (tl z) 0 (fun c hc => (dig_range c (h3 c hc)).2)
  have h6 : (10 : Nat) ^ (tl z).length ≤ 10 ^ 10 := Nat.pow_le_pow_right (by decide) (by rw [← str_len]; exact h2)
  unfold dv NumText.digitsVal
  omega
end W3
namespace W4
open PySem PySem.Spec PyProof.Rows L2 Wy WM W3
theorem tl_app (x y : Str) : tl (x ++ y) = tl x ++ tl y := app_tl x y
theorem ofString_app (a b : String) : Str.ofString (a ++ b) = Str.ofString a ++ Str.ofString b := by
  refine str_ext ?_
  rw [app_tl, Str.ofString_eq_toList, Str.ofString_eq_toList, Str.ofString_eq_toList]
  simp
theorem toStr_neg {i : Int} (h : i < 0) : Str.ofString (toString i) = ("-" : Str) ++ numS (-i).toNat := by
  rw [PyProof.Rows.toString_neg h, ofString_app, toStr_nat (by omega), show 0 - i = -i by omega]
/-- a number's text, of either sign -/
def intS (n : Int) : Str := Str.ofString (toString n)
theorem intS_tl (n : Int) : tl (intS n) = if n < 0 then 45 :: TL.numL (-n).toNat else TL.numL n.toNat := by
  unfold intS
  by_cases h : n < 0
  · rw [if_pos h, toStr_neg h, tl_app, numS_tl]
    rfl
  · rw [if_neg h, toStr_nat (by omega), numS_tl]
theorem intS_len {n : Int} (h : n.natAbs < 10 ^ 10) : (intS n).length ≤ 11 := by
  rw [str_len]
  show (tl (intS n)).length ≤ 11
  rw [intS_tl]
  split
  · rw [List.length_cons]
    have := TL.numL_len (n := (-n).toNat) (k := 10) (by decide) (by omega)
    omega
  · have := TL.numL_len (n := n.toNat) (k := 10) (by decide) (by omega)
    omega
def plusS (p : Int) : Str := if p = 0 then "" else if 0 < p then (" + " : Str) ++ numS p.toNat else (" - " : Str) ++ numS (-p).toNat
def textE : Ex → Str
  | .num n => intS n
  | .var x p => x ++ plusS p
  | .item x i p => x ++ ("[" : Str) ++ textE i ++ ("]" : Str) ++ plusS p
def plusW (p : Int) : List Str := if p = 0 then [] else [if 0 < p then "+" else "-", numS p.natAbs]
def wordsE : Ex → List Str
  | .num n => if n < 0 then ["-", numS (-n).toNat] else [numS n.toNat]
  | .var x p => x :: plusW p
  | .item x i p => [x, ("[" : Str)] ++ wordsE i ++ [("]" : Str)] ++ plusW p
def Plain : Ex → Prop
  | .num n => n.natAbs < 10 ^ 10
  | .var x p => nameW x = true ∧ p.natAbs < 10 ^ 10
  | .item _ _ _ => False
def Good : Ex → Prop
  | .num n => n.natAbs < 10 ^ 10
  | .var x p => nameW x = true ∧ p.natAbs < 10 ^ 10
  | .item x i p => nameW x = true ∧ Plain i ∧ p.natAbs < 10 ^ 10
theorem Plain.good {e : Ex} (h : Plain e) : Good e := by
  cases e with
  | num n => exact h
  | var x p => exact h
  | item x i p => exact h.elim
theorem numS_len10 {n : Nat} (h : n < 10 ^ 10) : (numS n).length ≤ 10 := (numS_len h).2
theorem plusS_len {p : Int} (h : p.natAbs < 10 ^ 10) : (plusS p).length ≤ 13 := by
  unfold plusS
  split
  · exact Nat.zero_le _
  · split
    · rw [app_len]
      have := numS_len10 (n := p.toNat) (by omega)
      show 3 + _ ≤ _
      omega
    · rw [app_len]
      have := numS_len10 (n := (-p).toNat) (by omega)
      show 3 + _ ≤ _
      omega
theorem plain_len {e : Ex} (h : Plain e) : (textE e).length ≤ 30 := by
  cases e with
  | num n =>
    have := intS_len h
    show (intS n).length ≤ 30
    omega
  | var x p =>
    have h1 := (name_parts h.1).2.1
    have h2 := plusS_len h.2
    show (x ++ plusS p).length ≤ 30
    rw [app_len]
    omega
  | item x i p => exact h.elim
theorem good_len {e : Ex} (h : Good e) : (textE e).length ≤ 60 := by
  cases e with
  | num n =>
    have := intS_len h
    show (intS n).length ≤ 60
    omega
  | var x p =>
    have h1 := (name_parts h.1).2.1
    have h2 := plusS_len h.2
    show (x ++ plusS p).length ≤ 60
    rw [app_len]
    omega
  | item x i p =>
    have h1 := (name_parts h.1).2.1
    have h2 := plusS_len h.2.2
    have h3 := plain_len h.2.1
    show (x ++ ("[" : Str) ++ textE i ++ ("]" : Str) ++ plusS p).length ≤ 60
    rw [app_len, app_len, app_len, app_len]
    show _ + 1 + _ + 1 + _ ≤ 60
    omega
/-! ### words with spaces between them -/
def joinsLH (w v : List Nat) : Prop := ∃ a c, w.getLast? = some a ∧ v.head? = some c ∧ joinsC a c
def glue : List (List Nat × Nat) → List Nat
  | [] => []
  | (w, n) :: r => w ++ (List.replicate n 32 ++ glue r)
def GlueOk : List (List Nat × Nat) → Prop
  | [] => True
  | [(w, _)] => IsTok w
  | (w, n) :: (v, m) :: r => IsTok w ∧ (0 < n ∨ ¬ joinsLH w v) ∧ GlueOk ((v, m) :: r)
theorem joins32 {a : Nat} : ¬ joinsC a 32 := by
  rintro (⟨_, h⟩ | ⟨_, h⟩ | ⟨_, h⟩)
  · exact let32 32 h rfl
  · exact (dig32 32 h).1 rfl
  · exact (eqs32 32 h).1 rfl
theorem _root_.WM.IsTok.last {w : List Nat} (h : IsTok w) : ∃ a, w.getLast? = some a := by
  obtain ⟨c, r, e, _⟩ := h.ne
  rw [e, List.getLast?_cons]
  exact ⟨_, rfl⟩
theorem glue_next {w : List Nat} (h : IsTok w) {n : Nat} {rest : List Nat} (k : 0 < n ∨ okNext w rest) : okNext w (List.replicate n 32 ++ rest) := by
  obtain ⟨a, ha⟩ := h.last
  cases n with
  | zero =>
    rcases k with k | k
    · omega
    · exact k
  | succ n =>
    rw [List.replicate_succ]
    exact .inr ⟨a, 32, _, ha, rfl, joins32⟩
theorem lex_glue : ∀ {l : List (List Nat × Nat)}, GlueOk l → lexL (glue l) = some (l.map (·.1))
  | [], _ => rfl
  | [(w, n)], h => by
    have h : IsTok w := h
    show lexL (w ++ (List.replicate n 32 ++ [])) = _
    rw [lexL_tok h, lexL_spaces]
    · rfl
    · refine glue_next h (.inr (.inl rfl))
  | (w, n) :: (v, m) :: r, h => by
    obtain ⟨h1, h2, h3⟩ := h
    show lexL (w ++ (List.replicate n 32 ++ glue ((v, m) :: r))) = _
    rw [lexL_tok h1, lexL_spaces, lex_glue h3]
    · rfl
    · refine glue_next h1 (h2.imp id fun h => ?_)
      have hv : IsTok v := by
        cases r with
        | nil => exact h3
        | cons x r => exact h3.1
      obtain ⟨c, q, e, _⟩ := hv.ne
      obtain ⟨a, ha⟩ := h1.last
      refine .inr ⟨a, c, q ++ (List.replicate m 32 ++ glue r), ha, ?_, fun hj => h ⟨a, c, ha, by rw [e]; rfl, hj⟩⟩
      show v ++ _ = _
      rw [e]
      rfl
/-- a word of a row -/
def Tok (w : Str) : Prop := IsTok (tl w)
theorem words_glue {z : Str} {k : Nat} {l : List (List Nat × Nat)} (h : GlueOk l) (e : tl z = List.replicate k 32 ++ glue l) : wordsW z = some (l.map fun p => mkS p.1) := by
  rw [words_lex, e, lexL_spaces, lex_glue h]
  show some ((l.map (·.1)).map mkS) = _
  rw [List.map_map]
  rfl
theorem tok_name {x : Str} (h : nameW x = true) : Tok x := tok_let (ne_of_len (name_parts h).1) (name_parts h).2.2.2
theorem tok_num (n : Nat) : Tok (numS n) := by
  unfold Tok
  rw [numS_tl]
  exact tok_dig (TL.numL_ne n) fun c hc => dig_mem (TL.numL_digits n c hc)
theorem tok_sho {z : Str} {c : Nat} (e : tl z = [c]) (h : c ∈ tl SHO) : Tok z := by
  unfold Tok
  rw [e]
  exact tok_one h
theorem no_join_sho {w v : List Nat} {c : Nat} (hc : c ∉ tl LET ∧ c ∉ tl DIG ∧ c ∉ EQS) (h : w.getLast? = some c ∨ v.head? = some c) : ¬ joinsLH w v := by
  rintro ⟨a, b, h1, h2, hj⟩
  rcases h with h | h
  · rw [h] at h1
    have h1 := Option.some.inj h1
    subst h1
    rcases hj with ⟨h, _⟩ | ⟨h, _⟩ | ⟨h, _⟩
    · exact hc.1 h
    · exact hc.2.1 h
    · exact hc.2.2 h
  · rw [h] at h2
    have h2 := Option.some.inj h2
    subst h2
    rcases hj with ⟨_, h⟩ | ⟨_, h⟩ | ⟨_, h⟩
    · exact hc.1 h
    · exact hc.2.1 h
    · exact hc.2.2 h
/-! the written form's words -/
def plusG (p : Int) : List (List Nat × Nat) := if p = 0 then [] else [([if 0 < p then 43 else 45], 1), (TL.numL p.natAbs, 0)]
/-- how many spaces stand behind what is ahead of a plus -/
def gapP (p : Int) : Nat := if p = 0 then 0 else 1
def plainG : Ex → List (List Nat × Nat)
  | .num n => if n < 0 then [([45], 0), (TL.numL (-n).toNat, 0)] else [(TL.numL n.toNat, 0)]
  | .var x p => (tl x, gapP p) :: plusG p
  | .item _ _ _ => []
def goodG : Ex → List (List Nat × Nat)
  | .num n => plainG (.num n)
  | .var x p => plainG (.var x p)
  | .item x i p => (tl x, 0) :: ([91], 0) :: (plainG i ++ ([93], gapP p) :: plusG p)
theorem plus_tl (p : Int) : tl (plusS p) = List.replicate (gapP p) 32 ++ glue (plusG p) := by
  unfold plusS gapP plusG
  by_cases h : p = 0
  · rw [if_pos h, if_pos h, if_pos h]
    rfl
  · rw [if_neg h, if_neg h, if_neg h]
    by_cases h2 : 0 < p
    · rw [if_pos h2, if_pos h2, tl_app, numS_tl, show p.toNat = p.natAbs by omega]
      show [32, 43, 32] ++ _ = [32] ++ ([43] ++ ([32] ++ (TL.numL p.natAbs ++ ([] ++ []))))
      simp
    · rw [if_neg h2, if_neg h2, tl_app, numS_tl, show (-p).toNat = p.natAbs by omega]
      show [32, 45, 32] ++ _ = [32] ++ ([45] ++ ([32] ++ (TL.numL p.natAbs ++ ([] ++ []))))
      simp
theorem glue_app : ∀ a b : List (List Nat × Nat), glue (a ++ b) = glue a ++ glue b
  | [], b => rfl
  | (w, n) :: r, b => by
    show w ++ (List.replicate n 32 ++ glue (r ++ b)) = w ++ (List.replicate n 32 ++ glue r) ++ glue b
    rw [glue_app r b]
    simp
theorem plain_tl {e : Ex} (h : Plain e) : tl (textE e) = glue (plainG e) := by
  cases e with
  | num n =>
    show tl (intS n) = glue (if n < 0 then _ else _)
    rw [intS_tl]
    split
    · show _ = [45] ++ ([] ++ (TL.numL (-n).toNat ++ ([] ++ [])))
      simp
    · show _ = TL.numL n.toNat ++ ([] ++ [])
      simp
  | var x p =>
    show tl (x ++ plusS p) = tl x ++ (List.replicate (gapP p) 32 ++ glue (plusG p))
    rw [tl_app]
    show tl x ++ tl (plusS p) = _
    rw [plus_tl]
  | item x i p => exact h.elim
theorem good_tl {e : Ex} (h : Good e) : tl (textE e) = glue (goodG e) := by
  cases e with
  | num n => exact plain_tl (e := .num n) h
  | var x p => exact plain_tl (e := .var x p) h
  | item x i p =>
    show tl (x ++ ("[" : Str) ++ textE i ++ ("]" : Str) ++ plusS p) = tl x ++ ([] ++ ([91] ++ ([] ++ glue (plainG i ++ ([93], gapP p) :: plusG p))))
    rw [tl_app, tl_app, tl_app, tl_app, glue_app]
    show tl x ++ [91] ++ tl (textE i) ++ [93] ++ tl (plusS p) = tl x ++ ([] ++ ([91] ++ ([] ++ (glue (plainG i) ++ ([93] ++ (List.replicate (gapP p) 32 ++ glue (plusG p)))))))
    rw [plain_tl h.2.1, plus_tl]
    simp
theorem tokL (n : Nat) : IsTok (TL.numL n) := by
  have := tok_num n
  unfold Tok at this
  rwa [numS_tl] at this
theorem plusG_ok (p : Int) : GlueOk (plusG p) := by
  unfold plusG
  split
  · trivial
  · refine ⟨?_, .inl (by decide), tokL _⟩
    split
    · exact tok_one (by decide +kernel)
    · exact tok_one (by decide +kernel)
theorem glue_cons {w : List Nat} {n : Nat} {l : List (List Nat × Nat)} (h : IsTok w) (k : ∀ v m r, l = (v, m) :: r → 0 < n ∨ ¬ joinsLH w v) (hl : GlueOk l) : GlueOk ((w, n) :: l) := by
  cases l with
  | nil => exact h
  | cons x r =>
    obtain ⟨v, m⟩ := x
    exact ⟨h, k v m r rfl, hl⟩
theorem plus_behind {w : List Nat} {p : Int} (h : IsTok w) : GlueOk ((w, gapP p) :: plusG p) := by
  refine glue_cons h (fun v m r e => .inl ?_) (plusG_ok p)
  unfold plusG at e
  unfold gapP
  split at e
  · cases e
  · rename_i hp
    rw [if_neg hp]
    decide
theorem plain_glue {e : Ex} (h : Plain e) : GlueOk (plainG e) := by
  cases e with
  | num n =>
    show GlueOk (if n < 0 then _ else _)
    split
    · exact ⟨tok_one (by decide +kernel), .inr (no_join_sho (c := 45) (by decide +kernel) (.inl rfl)), tokL _⟩
    · exact tokL _
  | var x p => exact plus_behind (tok_name h.1)
  | item x i p => exact h.elim
theorem glue_join : ∀ {a : List (List Nat × Nat)} {w : List Nat} {n : Nat} {b : List (List Nat × Nat)}, GlueOk a → (∀ v, ¬ joinsLH v w) → GlueOk ((w, n) :: b) → GlueOk (a ++ (w, n) :: b)
  | [], _, _, _, _, _, h => h
  | [(v, m)], w, n, b, h1, h2, h3 => ⟨h1, .inr (h2 v), h3⟩
  | (v, m) :: (u, k) :: r, w, n, b, h1, h2, h3 => ⟨h1.1, h1.2.1, glue_join (a := (u, k) :: r) h1.2.2 h2 h3⟩
theorem good_glue {e : Ex} (h : Good e) : GlueOk (goodG e) := by
  cases e with
  | num n => exact plain_glue (e := .num n) h
  | var x p => exact plain_glue (e := .var x p) h
  | item x i p =>
    have h91 : ∀ v : List Nat, ¬ joinsLH [91] v := fun v => no_join_sho (c := 91) (by decide +kernel) (.inl rfl)
    refine ⟨tok_name h.1, .inr (no_join_sho (c := 91) (by decide +kernel) (.inr rfl)), ?_⟩
    refine glue_cons (tok_one (by decide +kernel)) (fun v m r _ => .inr (h91 v)) ?_
    exact glue_join (plain_glue h.2.1) (fun v => no_join_sho (c := 93) (by decide +kernel) (.inr rfl)) (plus_behind (tok_one (by decide +kernel)))
theorem mkS_num (n : Nat) : mkS (TL.numL n) = numS n := by rw [← numS_tl, tl_mkS]
theorem plus_words (p : Int) : (plusG p).map (fun q => mkS q.1) = plusW p := by
  unfold plusG plusW
  split
  · rfl
  · split
    · show [mkS [43], mkS (TL.numL _)] = _
      rw [mkS_num]
      rfl
    · show [mkS [45], mkS (TL.numL _)] = _
      rw [mkS_num]
      rfl
theorem plain_words {e : Ex} (h : Plain e) : (plainG e).map (fun q => mkS q.1) = wordsE e := by
  cases e with
  | num n =>
    show (if n < 0 then _ else _ : List (List Nat × Nat)).map _ = if n < 0 then _ else _
    split
    · show [mkS [45], mkS (TL.numL _)] = _
      rw [mkS_num]
      rfl
    · show [mkS (TL.numL _)] = _
      rw [mkS_num]
  | var x p =>
    show mkS (tl x) :: (plusG p).map _ = _
    rw [tl_mkS, plus_words]
    rfl
  | item x i p => exact h.elim
theorem good_words {e : Ex} (h : Good e) : wordsW (textE e) = some (wordsE e) := by
  rw [words_glue (k := 0) (good_glue h) (by rw [good_tl h]; rfl)]
  congr 1
  cases e with
  | num n => exact plain_words (e := .num n) h
  | var x p => exact plain_words (e := .var x p) h
  | item x i p =>
    show mkS (tl x) :: mkS [91] :: (plainG i ++ ([93], gapP p) :: plusG p).map _ = _
    rw [tl_mkS, List.map_append, plain_words h.2.1, List.map_cons, plus_words]
    show _ = [x, ("[" : Str)] ++ wordsE i ++ [("]" : Str)] ++ plusW p
    simp
    exact ⟨rfl, rfl⟩
end W4
namespace W5
open PySem PySem.Spec PyProof.Rows L2 Wy WM W3 W4
/-! ### read back -/
theorem wordAt_pre (pre l : List Str) (k : Nat) : wordAt (pre ++ l) (pre.length + k) = wordAt l k := by
  unfold wordAt
  rw [List.getD_eq_getElem?_getD, List.getD_eq_getElem?_getD, List.getElem?_append_right (by omega), Nat.add_sub_cancel_left]
def NoSign (suf : List Str) : Prop := wordAt suf 0 ≠ "+" ∧ wordAt suf 0 ≠ "-"
theorem natAbs_lt {p : Int} (h : p.natAbs < 10 ^ 10) : numberW (numS p.natAbs) = true := numS_number h
theorem plus_read {pre suf : List Str} {p : Int} (h : p.natAbs < 10 ^ 10) (hs : NoSign suf) : takePlus (pre ++ (plusW p ++ suf)) pre.length = some (p, pre.length + (plusW p).length) := by
  have h0 := wordAt_pre pre (plusW p ++ suf) 0
  have h1 := wordAt_pre pre (plusW p ++ suf) 1
  rw [Nat.add_zero] at h0
  unfold takePlus
  rw [h0, h1]
  unfold plusW
  by_cases hp : p = 0
  · rw [if_pos hp, List.nil_append, if_neg (fun h => h.elim hs.1 hs.2), hp]
    rfl
  · rw [if_neg hp]
    have e1 : wordAt ([if 0 < p then ("+" : Str) else "-", numS p.natAbs] ++ suf) 0 = if 0 < p then ("+" : Str) else "-" := rfl
    have e2 : wordAt ([if 0 < p then ("+" : Str) else "-", numS p.natAbs] ++ suf) 1 = numS p.natAbs := rfl
    rw [e1, e2, natAbs_lt h, numS_dv]
    by_cases h2 : 0 < p
    · rw [if_pos h2, if_pos (.inl rfl), if_pos rfl, if_pos rfl, show ((p.natAbs : Nat) : Int) = p by omega]
      rfl
    · rw [if_neg h2, if_pos (.inr rfl), if_pos rfl, if_neg (by decide +kernel), show -((p.natAbs : Nat) : Int) = p by omega]
      rfl
theorem num_not_name (n : Nat) (h : n < 10 ^ 10) : nameW (numS n) = false := by
  cases e : nameW (numS n) with
  | false => rfl
  | true =>
    have := name_not_number e
    rw [numS_number h] at this
    cases this
theorem plain_read {pre suf : List Str} {e : Ex} (h : Plain e) (hs : NoSign suf) : takePlain (pre ++ (wordsE e ++ suf)) pre.length = some (e, pre.length + (wordsE e).length) := by
  have h0 := wordAt_pre pre (wordsE e ++ suf) 0
  have h1 := wordAt_pre pre (wordsE e ++ suf) 1
  rw [Nat.add_zero] at h0
  unfold takePlain
  cases e with
  | num n =>
    have hn : n.natAbs < 10 ^ 10 := h
    unfold takeSigned
    rw [h0, h1]
    by_cases hneg : n < 0
    · have e0 : wordsE (.num n) = [("-" : Str), numS (-n).toNat] := if_pos hneg
      rw [e0]
      have e1 : wordAt ([("-" : Str), numS (-n).toNat] ++ suf) 0 = "-" := rfl
      have e2 : wordAt ([("-" : Str), numS (-n).toNat] ++ suf) 1 = numS (-n).toNat := rfl
      rw [e1, e2, if_neg (by decide +kernel), if_neg (by decide +kernel), numS_number (n := (-n).toNat) (by omega), if_pos ⟨rfl, rfl⟩, numS_dv, show -(((-n).toNat : Nat) : Int) = n by omega]
      rfl
    · have e0 : wordsE (.num n) = [numS n.toNat] := if_neg hneg
      rw [e0]
      have e1 : wordAt ([numS n.toNat] ++ suf) 0 = numS n.toNat := rfl
      rw [e1, num_not_name n.toNat (by omega), if_neg Bool.false_ne_true, numS_number (n := n.toNat) (by omega), if_pos rfl, numS_dv, show ((n.toNat : Nat) : Int) = n by omega]
      rfl
  | var x p =>
    have e1 : wordAt (wordsE (.var x p) ++ suf) 0 = x := rfl
    have e2 := plus_read (pre := pre ++ [x]) h.2 hs
    have e3 : pre ++ (wordsE (.var x p) ++ suf) = pre ++ [x] ++ (plusW p ++ suf) := by
      show pre ++ (x :: plusW p ++ suf) = _
      simp
    rw [h0, e1, h.1, if_pos rfl, e3, show pre.length + 1 = (pre ++ [x]).length by simp, e2]
    show some (Ex.var x p, (pre ++ [x]).length + (plusW p).length) = some (Ex.var x p, pre.length + (x :: plusW p).length)
    rw [List.length_append, List.length_cons, List.length_cons, List.length_nil]
    congr 2
    omega
  | item x i p => exact h.elim
theorem noSign_nil : NoSign [] := by
  constructor <;> decide +kernel
theorem read_good {e : Ex} (h : Good e) : readW (wordsE e) = some e := by
  have pl : ∀ e : Ex, Plain e → (¬ (nameW (wordAt (wordsE e) 0) = true ∧ wordAt (wordsE e) 1 = "[")) → readW (wordsE e) = some e := fun e h hn => by
    have h1 := plain_read (pre := []) h noSign_nil
    rw [List.nil_append, List.append_nil, List.length_nil, Nat.zero_add] at h1
    unfold readW takeExpr
    rw [if_neg hn, h1]
    exact if_pos rfl
  cases e with
  | num n =>
    refine pl _ h fun hh => ?_
    have hn : n.natAbs < 10 ^ 10 := h
    by_cases hneg : n < 0
    · have e0 : wordsE (.num n) = [("-" : Str), numS (-n).toNat] := if_pos hneg
      rw [e0] at hh
      have : nameW ("-" : Str) = true := hh.1
      revert this
      decide +kernel
    · have e0 : wordsE (.num n) = [numS n.toNat] := if_neg hneg
      rw [e0] at hh
      have : nameW (numS n.toNat) = true := hh.1
      rw [num_not_name n.toNat (by omega)] at this
      cases this
  | var x p =>
    refine pl _ h fun hh => ?_
    have hb : wordAt (x :: plusW p) 1 = "[" := hh.2
    unfold plusW at hb
    split at hb
    · revert hb
      show wordAt [x] 1 = _ → _
      rw [show wordAt [x] 1 = "" from rfl]
      decide +kernel
    · have hb : (if 0 < p then ("+" : Str) else "-") = "[" := hb
      split at hb
      · revert hb
        decide +kernel
      · revert hb
        decide +kernel
  | item x i p =>
    have e0 : wordsE (.item x i p) = [x, ("[" : Str)] ++ (wordsE i ++ (("]" : Str) :: plusW p)) := by
      show [x, ("[" : Str)] ++ wordsE i ++ [("]" : Str)] ++ plusW p = _
      simp
    have h1 := plain_read (pre := [x, ("[" : Str)]) (suf := ("]" : Str) :: plusW p) h.2.1 (by constructor <;> (show ("]" : Str) ≠ _; decide +kernel))
    have h2 := plus_read (pre := [x, ("[" : Str)] ++ wordsE i ++ [("]" : Str)]) (suf := []) h.2.2 noSign_nil
    have h3 := wordAt_pre ([x, ("[" : Str)] ++ wordsE i) (("]" : Str) :: plusW p) 0
    have e3 : [x, ("[" : Str)] ++ wordsE i ++ [("]" : Str)] ++ (plusW p ++ []) = [x, ("[" : Str)] ++ (wordsE i ++ (("]" : Str) :: plusW p)) := by simp
    have e4 : [x, ("[" : Str)] ++ wordsE i ++ (("]" : Str) :: plusW p) = [x, ("[" : Str)] ++ (wordsE i ++ (("]" : Str) :: plusW p)) := by simp
    rw [e3] at h2
    rw [e4, Nat.add_zero] at h3
    have l1 : ([x, ("[" : Str)] ++ wordsE i).length = 2 + (wordsE i).length := by
      rw [List.length_append]
      rfl
    have l2 : ([x, ("[" : Str)] ++ wordsE i ++ [("]" : Str)]).length = 2 + (wordsE i).length + 1 := by
      rw [List.length_append, l1]
      rfl
    rw [l2] at h2
    rw [l1] at h3
    unfold readW takeExpr
    rw [e0]
    rw [if_pos (show nameW (wordAt ([x, ("[" : Str)] ++ (wordsE i ++ (("]" : Str) :: plusW p))) 0) = true ∧ wordAt ([x, ("[" : Str)] ++ (wordsE i ++ (("]" : Str) :: plusW p))) (0 + 1) = "[" from ⟨h.1, rfl⟩)]
    rw [show takePlain ([x, ("[" : Str)] ++ (wordsE i ++ (("]" : Str) :: plusW p))) (0 + 2) = some (i, 2 + (wordsE i).length) from h1]
    show wholeE (if wordAt _ (2 + (wordsE i).length) = "]" then _ else none) _ = _
    rw [h3, if_pos (show wordAt (("]" : Str) :: plusW p) 0 = "]" from rfl), h2]
    show (if _ = _ then some (Ex.item (wordAt ([x, ("[" : Str)] ++ _) 0) i p) else none) = _
    rw [if_pos (by simp only [List.length_append, List.length_cons, List.length_nil]; omega)]
    rfl
/-! ### a sign that belongs to no word -/
def OKC (c : Nat) : Prop := c ∈ tl LET ∨ c ∈ tl DIG ∨ c ∈ tl SHO ∨ c = 32
theorem tw_mem {p : Nat → Bool} : ∀ {l : List Nat} {d : Nat}, d ∈ l.takeWhile p → p d = true
  | [], _, h => by cases h
  | c :: r, d, h => by
    rw [List.takeWhile_cons] at h
    split at h
    · rename_i h1
      rcases List.mem_cons.mp h with e | h
      · rw [e]
        exact h1
      · exact tw_mem h
    · cases h
theorem lex_bad : ∀ {k : Nat} {l : List Nat}, l.length ≤ k → 61 ∉ l → (∃ c ∈ l, ¬ OKC c) → lexL l = none
  | 0, l, h, _, ⟨c, hc, _⟩ => by
    have e : l = [] := List.length_eq_zero_iff.mp (by omega)
    rw [e] at hc
    cases hc
  | k + 1, [], _, _, ⟨c, hc, _⟩ => by cases hc
  | k + 1, c :: r, h, h61, ⟨b, hb, nb⟩ => by
    rw [List.length_cons] at h
    by_cases hs : c = 32
    · rw [hs, lexL_space]
      refine lex_bad (k := k) (by omega) (fun z => h61 (List.mem_cons_of_mem _ z)) ?_
      rcases List.mem_cons.mp hb with e | hb
      · exact absurd (.inr (.inr (.inr (e.trans hs)))) nb
      · exact ⟨b, hb, nb⟩
    · rw [lexL_word hs]
      split
      · rfl
      · rename_i hw
        have hok : ∀ d ∈ (c :: r).take (wordLen (c :: r)), OKC d := by
          have tw : ∀ (p : List Nat) (n : Nat), n = 1 + (r.takeWhile fun d => decide (d ∈ p)).length → c ∈ p → ∀ d ∈ (c :: r).take n, d ∈ p := fun p n hn hc d hd => by
            rw [hn, Nat.add_comm, List.take_succ_cons] at hd
            rcases List.mem_cons.mp hd with e | hd
            · rw [e]
              exact hc
            · have e : r.take (r.takeWhile fun d => decide (d ∈ p)).length = r.takeWhile fun d => decide (d ∈ p) := by
                have := List.takeWhile_prefix (fun d => decide (d ∈ p)) (l := r)
                exact (List.prefix_iff_eq_take.mp this).symm
              rw [e] at hd
              simpa using tw_mem hd
          rw [wordLen_cons]
          intro d hd
          split at hd
          · rename_i h1
            exact .inl (tw _ _ rfl h1 d hd)
          · split at hd
            · rename_i h1
              exact .inr (.inl (tw _ _ rfl h1 d hd))
            · split at hd
              · rename_i h1
                exact absurd (List.mem_cons_of_mem _ (List.mem_of_head? h1.1)) h61
              · split at hd
                · rename_i h1
                  have e : d = c := by simpa using hd
                  exact .inr (.inr (.inl (e ▸ h1)))
                · cases hd
        have hd : ((c :: r).drop (wordLen (c :: r))).length ≤ k := by
          rw [List.length_drop, List.length_cons]
          omega
        rw [lex_bad hd (fun z => h61 (List.mem_of_mem_drop z)) ?_]
        · rfl
        · rw [← List.take_append_drop (wordLen (c :: r)) (c :: r)] at hb
          rcases List.mem_append.mp hb with hb | hb
          · exact absurd (hok b hb) nb
          · exact ⟨b, hb, nb⟩
theorem words_bad {z : Str} (h : 61 ∉ tl z) (b : ∃ c ∈ tl z, ¬ OKC c) : wordsW z = none := by
  rw [words_lex, lex_bad (Nat.le_refl _) h b]
  rfl
end W5
namespace K02
open PySem PySem.Spec PyProof.Rows L2 Wy
/-! ### the text -/
def top (i : Nat) : Stmt := PySem.Challenge.pw_wayorring_k02_expressions_read_back.main.body.getD i (.Pass ⟨0, 0, 0, 0⟩)
abbrev s_split_row : Stmt := top 8
abbrev n_split_row : List Str := ["text", "words", "at", "end"]
theorem sc_split_row : FnScope n_split_row ["text"] (defScope s_split_row) := C8.fnScope_by (by decide +kernel)
abbrev s_is_name : Stmt := top 9
abbrev n_is_name : List Str := ["word"]
theorem sc_is_name : FnScope n_is_name ["word"] (defScope s_is_name) := C8.fnScope_by (by decide +kernel)
abbrev s_is_number : Stmt := top 10
abbrev n_is_number : List Str := ["word"]
theorem sc_is_number : FnScope n_is_number ["word"] (defScope s_is_number) := C8.fnScope_by (by decide +kernel)
abbrev s_is_numeral : Stmt := top 11
abbrev n_is_numeral : List Str := ["word", "most"]
theorem sc_is_numeral : FnScope n_is_numeral ["word", "most"] (defScope s_is_numeral) := C8.fnScope_by (by decide +kernel)
abbrev s_word_at : Stmt := top 12
abbrev n_word_at : List Str := ["words", "at"]
theorem sc_word_at : FnScope n_word_at ["words", "at"] (defScope s_word_at) := C8.fnScope_by (by decide +kernel)
abbrev s_word_end : Stmt := top 13
abbrev n_word_end : List Str := ["text", "at"]
theorem sc_word_end : FnScope n_word_end ["text", "at"] (defScope s_word_end) := C8.fnScope_by (by decide +kernel)
abbrev s_run_end : Stmt := top 14
abbrev n_run_end : List Str := ["text", "at", "characters"]
theorem sc_run_end : FnScope n_run_end ["text", "at", "characters"] (defScope s_run_end) := C8.fnScope_by (by decide +kernel)
abbrev s_read_expression : Stmt := top 16
abbrev n_read_expression : List Str := ["text", "words"]
theorem sc_read_expression : FnScope n_read_expression ["text"] (defScope s_read_expression) := C8.fnScope_by (by decide +kernel)
abbrev s_expression_of : Stmt := top 17
abbrev n_expression_of : List Str := ["words"]
theorem sc_expression_of : FnScope n_expression_of ["words"] (defScope s_expression_of) := C8.fnScope_by (by decide +kernel)
abbrev s_write_expression : Stmt := top 18
abbrev n_write_expression : List Str := ["expression", "_", "name", "plus", "index"]
theorem sc_write_expression : FnScope n_write_expression ["expression"] (defScope s_write_expression) := C8.fnScope_by (by decide +kernel)
abbrev s_whole : Stmt := top 19
abbrev n_whole : List Str := ["taken", "words"]
theorem sc_whole : FnScope n_whole ["taken", "words"] (defScope s_whole) := C8.fnScope_by (by decide +kernel)
abbrev s_take_signed : Stmt := top 20
abbrev n_take_signed : List Str := ["words", "at"]
theorem sc_take_signed : FnScope n_take_signed ["words", "at"] (defScope s_take_signed) := C8.fnScope_by (by decide +kernel)
abbrev s_take_plus : Stmt := top 21
abbrev n_take_plus : List Str := ["words", "at", "sign", "number"]
theorem sc_take_plus : FnScope n_take_plus ["words", "at"] (defScope s_take_plus) := C8.fnScope_by (by decide +kernel)
abbrev s_take_plain : Stmt := top 22
abbrev n_take_plain : List Str := ["words", "at", "signed", "plus"]
theorem sc_take_plain : FnScope n_take_plain ["words", "at"] (defScope s_take_plain) := C8.fnScope_by (by decide +kernel)
abbrev s_take_expression : Stmt := top 23
abbrev n_take_expression : List Str := ["words", "at", "index", "plus"]
theorem sc_take_expression : FnScope n_take_expression ["words", "at"] (defScope s_take_expression) := C8.fnScope_by (by decide +kernel)
abbrev s_write_plus : Stmt := top 24
abbrev n_write_plus : List Str := ["plus"]
theorem sc_write_plus : FnScope n_write_plus ["plus"] (defScope s_write_plus) := C8.fnScope_by (by decide +kernel)
abbrev s_law_draws : Stmt := top 26
abbrev n_law_draws : List Str := ["script", "many", "cell", "rests", "draws", "k", "at", "mixed"]
theorem sc_law_draws : FnScope n_law_draws ["script", "many"] (defScope s_law_draws) := C8.fnScope_by (by decide +kernel)
abbrev s_law_take : Stmt := top 27
abbrev n_law_take : List Str := ["hand", "many", "at", "draws"]
theorem sc_law_take : FnScope n_law_take ["hand", "many"] (defScope s_law_take) := C8.fnScope_by (by decide +kernel)
abbrev s_law_wide : Stmt := top 28
abbrev n_law_wide : List Str := ["hand", "many", "first"]
theorem sc_law_wide : FnScope n_law_wide ["hand", "many"] (defScope s_law_wide) := C8.fnScope_by (by decide +kernel)
abbrev s_law_letters : Stmt := top 29
abbrev n_law_letters : List Str := []
theorem sc_law_letters : FnScope n_law_letters [] (defScope s_law_letters) := C8.fnScope_by (by decide +kernel)
abbrev s_law_reserved : Stmt := top 30
abbrev n_law_reserved : List Str := ["words"]
theorem sc_law_reserved : FnScope n_law_reserved [] (defScope s_law_reserved) := C8.fnScope_by (by decide +kernel)
abbrev s_law_is_name : Stmt := top 31
abbrev n_law_is_name : List Str := ["word", "char"]
theorem sc_law_is_name : FnScope n_law_is_name ["word"] (defScope s_law_is_name) := C8.fnScope_by (by decide +kernel)
abbrev s_law_is_number : Stmt := top 32
abbrev n_law_is_number : List Str := ["word", "char"]
theorem sc_law_is_number : FnScope n_law_is_number ["word"] (defScope s_law_is_number) := C8.fnScope_by (by decide +kernel)
abbrev s_law_name : Stmt := top 33
abbrev n_law_name : List Str := ["hand", "size", "name", "k"]
theorem sc_law_name : FnScope n_law_name ["hand"] (defScope s_law_name) := C8.fnScope_by (by decide +kernel)
abbrev s_law_number : Stmt := top 34
abbrev n_law_number : List Str := ["hand", "kind"]
theorem sc_law_number : FnScope n_law_number ["hand"] (defScope s_law_number) := C8.fnScope_by (by decide +kernel)
abbrev s_law_plain : Stmt := top 35
abbrev n_law_plain : List Str := ["hand"]
theorem sc_law_plain : FnScope n_law_plain ["hand"] (defScope s_law_plain) := C8.fnScope_by (by decide +kernel)
abbrev s_law_expression : Stmt := top 36
abbrev n_law_expression : List Str := ["hand", "index"]
theorem sc_law_expression : FnScope n_law_expression ["hand"] (defScope s_law_expression) := C8.fnScope_by (by decide +kernel)
abbrev s_law_plus_words : Stmt := top 37
abbrev n_law_plus_words : List Str := ["plus"]
theorem sc_law_plus_words : FnScope n_law_plus_words ["plus"] (defScope s_law_plus_words) := C8.fnScope_by (by decide +kernel)
abbrev s_law_words_of : Stmt := top 38
abbrev n_law_words_of : List Str := ["expression"]
theorem sc_law_words_of : FnScope n_law_words_of ["expression"] (defScope s_law_words_of) := C8.fnScope_by (by decide +kernel)
abbrev s_law_plus_text : Stmt := top 39
abbrev n_law_plus_text : List Str := ["plus"]
theorem sc_law_plus_text : FnScope n_law_plus_text ["plus"] (defScope s_law_plus_text) := C8.fnScope_by (by decide +kernel)
abbrev s_law_text : Stmt := top 40
abbrev n_law_text : List Str := ["expression"]
theorem sc_law_text : FnScope n_law_text ["expression"] (defScope s_law_text) := C8.fnScope_by (by decide +kernel)
abbrev s_law_joins : Stmt := top 41
abbrev n_law_joins : List Str := ["left", "right"]
theorem sc_law_joins : FnScope n_law_joins ["left", "right"] (defScope s_law_joins) := C8.fnScope_by (by decide +kernel)
abbrev s_law_spaced : Stmt := top 42
abbrev n_law_spaced : List Str := ["hand", "words", "text", "at", "many"]
theorem sc_law_spaced : FnScope n_law_spaced ["hand", "words"] (defScope s_law_spaced) := C8.fnScope_by (by decide +kernel)
abbrev s_law_spoilt : Stmt := top 43
abbrev n_law_spoilt : List Str := ["hand", "words", "odd", "at", "kind", "word", "other", "row"]
theorem sc_law_spoilt : FnScope n_law_spoilt ["hand", "words"] (defScope s_law_spoilt) := C8.fnScope_by (by decide +kernel)
abbrev s_law_signed : Stmt := top 44
abbrev n_law_signed : List Str := ["words", "at"]
theorem sc_law_signed : FnScope n_law_signed ["words", "at"] (defScope s_law_signed) := C8.fnScope_by (by decide +kernel)
abbrev s_law_read_plus : Stmt := top 45
abbrev n_law_read_plus : List Str := ["words", "at"]
theorem sc_law_read_plus : FnScope n_law_read_plus ["words", "at"] (defScope s_law_read_plus) := C8.fnScope_by (by decide +kernel)
abbrev s_law_read_plain : Stmt := top 46
abbrev n_law_read_plain : List Str := ["words", "at", "found"]
theorem sc_law_read_plain : FnScope n_law_read_plain ["words", "at"] (defScope s_law_read_plain) := C8.fnScope_by (by decide +kernel)
abbrev s_law_read : Stmt := top 47
abbrev n_law_read : List Str := ["words", "at", "index", "found"]
theorem sc_law_read : FnScope n_law_read ["words", "at"] (defScope s_law_read) := C8.fnScope_by (by decide +kernel)
abbrev s_law_same : Stmt := top 48
abbrev n_law_same : List Str := ["found", "expected", "at"]
theorem sc_law_same : FnScope n_law_same ["found", "expected"] (defScope s_law_same) := C8.fnScope_by (by decide +kernel)
abbrev s_law : Stmt := top 49
abbrev n_law : List Str := ["script", "hand", "expression", "text", "written", "words", "at", "foreign", "step", "expected", "found"]
theorem sc_law : FnScope n_law ["script"] (defScope s_law) := C8.fnScope_by (by decide +kernel)
abbrev c_LONG_SIGNS : List V := [.str "<=", .str ">=", .str "==", .str "!="]
abbrev c_RESERVED : List V := [.str "input", .str "from", .str "to", .str "list", .str "def", .str "let", .str "if", .str "else", .str "end", .str "while", .str "at", .str "most", .str "check", .str "refuse", .str "answer", .str "return", .str "skip", .str "and", .str "or", .str "not", .str "row", .str "yes", .str "no", .str "turn", .str "fault", .str "when", .str "then"]
/-! ### what the top has made -/
structure Tx (K : PySem.W.Frag) (mg : Str → Option Value) : Prop where
  d_split_row : DefOk K mg "split_row" s_split_row
  d_is_name : DefOk K mg "is_name" s_is_name
  d_is_number : DefOk K mg "is_number" s_is_number
  d_is_numeral : DefOk K mg "is_numeral" s_is_numeral
  d_word_at : DefOk K mg "word_at" s_word_at
  d_word_end : DefOk K mg "_word_end" s_word_end
  d_run_end : DefOk K mg "_run_end" s_run_end
  d_read_expression : DefOk K mg "read_expression" s_read_expression
  d_expression_of : DefOk K mg "expression_of" s_expression_of
  d_write_expression : DefOk K mg "write_expression" s_write_expression
  d_whole : DefOk K mg "_whole" s_whole
  d_take_signed : DefOk K mg "_take_signed" s_take_signed
  d_take_plus : DefOk K mg "_take_plus" s_take_plus
  d_take_plain : DefOk K mg "_take_plain" s_take_plain
  d_take_expression : DefOk K mg "_take_expression" s_take_expression
  d_write_plus : DefOk K mg "_write_plus" s_write_plus
  d_law_draws : DefOk K mg "_law_draws" s_law_draws
  d_law_take : DefOk K mg "_law_take" s_law_take
  d_law_wide : DefOk K mg "_law_wide" s_law_wide
  d_law_letters : DefOk K mg "_law_letters" s_law_letters
  d_law_reserved : DefOk K mg "_law_reserved" s_law_reserved
  d_law_is_name : DefOk K mg "_law_is_name" s_law_is_name
  d_law_is_number : DefOk K mg "_law_is_number" s_law_is_number
  d_law_name : DefOk K mg "_law_name" s_law_name
  d_law_number : DefOk K mg "_law_number" s_law_number
  d_law_plain : DefOk K mg "_law_plain" s_law_plain
  d_law_expression : DefOk K mg "_law_expression" s_law_expression
  d_law_plus_words : DefOk K mg "_law_plus_words" s_law_plus_words
  d_law_words_of : DefOk K mg "_law_words_of" s_law_words_of
  d_law_plus_text : DefOk K mg "_law_plus_text" s_law_plus_text
  d_law_text : DefOk K mg "_law_text" s_law_text
  d_law_joins : DefOk K mg "_law_joins" s_law_joins
  d_law_spaced : DefOk K mg "_law_spaced" s_law_spaced
  d_law_spoilt : DefOk K mg "_law_spoilt" s_law_spoilt
  d_law_signed : DefOk K mg "_law_signed" s_law_signed
  d_law_read_plus : DefOk K mg "_law_read_plus" s_law_read_plus
  d_law_read_plain : DefOk K mg "_law_read_plain" s_law_read_plain
  d_law_read : DefOk K mg "_law_read" s_law_read
  d_law_same : DefOk K mg "_law_same" s_law_same
  d_law : DefOk K mg "law" s_law
  g_LETTERS : ∃ u, mg "LETTERS" = some u ∧ RelV (.str "abcdefghijklmnopqrstuvwxyz") u
  g_DIGITS : ∃ u, mg "DIGITS" = some u ∧ RelV (.str "0123456789") u
  g_SHORT_SIGNS : ∃ u, mg "SHORT_SIGNS" = some u ∧ RelV (.str "<>=+-()[],:") u
  g_MOST_LETTERS : ∃ u, mg "MOST_LETTERS" = some u ∧ RelV (.int 12) u
  g_MOST_DIGITS : ∃ u, mg "MOST_DIGITS" = some u ∧ RelV (.int 10) u
  g_LONG_SIGNS : ∃ u, mg "LONG_SIGNS" = some u ∧ RelV (.ref (He.ga K "LONG_SIGNS")) u
  t_LONG_SIGNS : ∀ H, SqT K H (He.ga K "LONG_SIGNS") c_LONG_SIGNS
  g_RESERVED : ∃ u, mg "RESERVED" = some u ∧ RelV (.ref (He.ga K "RESERVED")) u
  t_RESERVED : ∀ H, SqT K H (He.ga K "RESERVED") c_RESERVED
  z_abs : mg "abs" = none
  z_bool : mg "bool" = none
  z_int : mg "int" = none
  z_isinstance : mg "isinstance" = none
  z_len : mg "len" = none
  z_list : mg "list" = none
  z_range : mg "range" = none
  z_str : mg "str" = none
  z_tuple : mg "tuple" = none
/-! ### the head -/
def fn : List He.DefD := [⟨("split_row", none), "split_row", "split_row", defArgs s_split_row, defBody s_split_row, defScope s_split_row, [], []⟩, ⟨("is_name", none), "is_name", "is_name", defArgs s_is_name, defBody s_is_name, defScope s_is_name, [], []⟩, ⟨("is_number", none), "is_number", "is_number", defArgs s_is_number, defBody s_is_number, defScope s_is_number, [], []⟩, ⟨("is_numeral", none), "is_numeral", "is_numeral", defArgs s_is_numeral, defBody s_is_numeral, defScope s_is_numeral, [], []⟩, ⟨("word_at", none), "word_at", "word_at", defArgs s_word_at, defBody s_word_at, defScope s_word_at, [], []⟩, ⟨("_word_end", none), "_word_end", "_word_end", defArgs s_word_end, defBody s_word_end, defScope s_word_end, [], []⟩, ⟨("_run_end", none), "_run_end", "_run_end", defArgs s_run_end, defBody s_run_end, defScope s_run_end, [], []⟩, ⟨("read_expression", none), "read_expression", "read_expression", defArgs s_read_expression, defBody s_read_expression, defScope s_read_expression, [], []⟩, ⟨("expression_of", none), "expression_of", "expression_of", defArgs s_expression_of, defBody s_expression_of, defScope s_expression_of, [], []⟩, ⟨("write_expression", none), "write_expression", "write_expression", defArgs s_write_expression, defBody s_write_expression, defScope s_write_expression, [], []⟩, ⟨("_whole", none), "_whole", "_whole", defArgs s_whole, defBody s_whole, defScope s_whole, [], []⟩, ⟨("_take_signed", none), "_take_signed", "_take_signed", defArgs s_take_signed, defBody s_take_signed, defScope s_take_signed, [], []⟩, ⟨("_take_plus", none), "_take_plus", "_take_plus", defArgs s_take_plus, defBody s_take_plus, defScope s_take_plus, [], []⟩, ⟨("_take_plain", none), "_take_plain", "_take_plain", defArgs s_take_plain, defBody s_take_plain, defScope s_take_plain, [], []⟩, ⟨("_take_expression", none), "_take_expression", "_take_expression", defArgs s_take_expression, defBody s_take_expression, defScope s_take_expression, [], []⟩, ⟨("_write_plus", none), "_write_plus", "_write_plus", defArgs s_write_plus, defBody s_write_plus, defScope s_write_plus, [], []⟩, ⟨("_law_draws", none), "_law_draws", "_law_draws", defArgs s_law_draws, defBody s_law_draws, defScope s_law_draws, [], []⟩, ⟨("_law_take", none), "_law_take", "_law_take", defArgs s_law_take, defBody s_law_take, defScope s_law_take, [], []⟩, ⟨("_law_wide", none), "_law_wide", "_law_wide", defArgs s_law_wide, defBody s_law_wide, defScope s_law_wide, [], []⟩, ⟨("_law_letters", none), "_law_letters", "_law_letters", defArgs s_law_letters, defBody s_law_letters, defScope s_law_letters, [], []⟩, ⟨("_law_reserved", none), "_law_reserved", "_law_reserved", defArgs s_law_reserved, defBody s_law_reserved, defScope s_law_reserved, [], []⟩, ⟨("_law_is_name", none), "_law_is_name", "_law_is_name", defArgs s_law_is_name, defBody s_law_is_name, defScope s_law_is_name, [], []⟩, ⟨("_law_is_number", none), "_law_is_number", "_law_is_number", defArgs s_law_is_number, defBody s_law_is_number, defScope s_law_is_number, [], []⟩, ⟨("_law_name", none), "_law_name", "_law_name", defArgs s_law_name, defBody s_law_name, defScope s_law_name, [], []⟩, ⟨("_law_number", none), "_law_number", "_law_number", defArgs s_law_number, defBody s_law_number, defScope s_law_number, [], []⟩, ⟨("_law_plain", none), "_law_plain", "_law_plain", defArgs s_law_plain, defBody s_law_plain, defScope s_law_plain, [], []⟩, ⟨("_law_expression", none), "_law_expression", "_law_expression", defArgs s_law_expression, defBody s_law_expression, defScope s_law_expression, [], []⟩, ⟨("_law_plus_words", none), "_law_plus_words", "_law_plus_words", defArgs s_law_plus_words, defBody s_law_plus_words, defScope s_law_plus_words, [], []⟩, ⟨("_law_words_of", none), "_law_words_of", "_law_words_of", defArgs s_law_words_of, defBody s_law_words_of, defScope s_law_words_of, [], []⟩, ⟨("_law_plus_text", none), "_law_plus_text", "_law_plus_text", defArgs s_law_plus_text, defBody s_law_plus_text, defScope s_law_plus_text, [], []⟩, ⟨("_law_text", none), "_law_text", "_law_text", defArgs s_law_text, defBody s_law_text, defScope s_law_text, [], []⟩, ⟨("_law_joins", none), "_law_joins", "_law_joins", defArgs s_law_joins, defBody s_law_joins, defScope s_law_joins, [], []⟩, ⟨("_law_spaced", none), "_law_spaced", "_law_spaced", defArgs s_law_spaced, defBody s_law_spaced, defScope s_law_spaced, [], []⟩, ⟨("_law_spoilt", none), "_law_spoilt", "_law_spoilt", defArgs s_law_spoilt, defBody s_law_spoilt, defScope s_law_spoilt, [], []⟩, ⟨("_law_signed", none), "_law_signed", "_law_signed", defArgs s_law_signed, defBody s_law_signed, defScope s_law_signed, [], []⟩, ⟨("_law_read_plus", none), "_law_read_plus", "_law_read_plus", defArgs s_law_read_plus, defBody s_law_read_plus, defScope s_law_read_plus, [], []⟩, ⟨("_law_read_plain", none), "_law_read_plain", "_law_read_plain", defArgs s_law_read_plain, defBody s_law_read_plain, defScope s_law_read_plain, [], []⟩, ⟨("_law_read", none), "_law_read", "_law_read", defArgs s_law_read, defBody s_law_read, defScope s_law_read, [], []⟩, ⟨("_law_same", none), "_law_same", "_law_same", defArgs s_law_same, defBody s_law_same, defScope s_law_same, [], []⟩, ⟨("law", none), "law", "law", defArgs s_law, defBody s_law, defScope s_law, [], []⟩]
def fa : List He.Fa := [.glo "split_row", .glo "is_name", .glo "is_number", .glo "is_numeral", .glo "word_at", .glo "_word_end", .glo "_run_end", .glo "read_expression", .glo "expression_of", .glo "write_expression", .glo "_whole", .glo "_take_signed", .glo "_take_plus", .glo "_take_plain", .glo "_take_expression", .glo "_write_plus", .glo "_law_draws", .glo "_law_take", .glo "_law_wide", .glo "_law_letters", .glo "_law_reserved", .glo "_law_is_name", .glo "_law_is_number", .glo "_law_name", .glo "_law_number", .glo "_law_plain", .glo "_law_expression", .glo "_law_plus_words", .glo "_law_words_of", .glo "_law_plus_text", .glo "_law_text", .glo "_law_joins", .glo "_law_spaced", .glo "_law_spoilt", .glo "_law_signed", .glo "_law_read_plus", .glo "_law_read_plain", .glo "_law_read", .glo "_law_same", .glo "law", .str "LETTERS" "abcdefghijklmnopqrstuvwxyz", .str "DIGITS" "0123456789", .str "SHORT_SIGNS" "<>=+-()[],:", .int "MOST_LETTERS" 12, .int "MOST_DIGITS" 10, .glo "LONG_SIGNS", .glo "RESERVED", .free "abs", .free "bool", .free "int", .free "isinstance", .free "len", .free "list", .free "range", .free "str", .free "tuple"]
def ts : List He.Tab := []
def ex (K : PySem.W.Frag) : Bool := He.tupB K "LONG_SIGNS" [.str "<=", .str ">=", .str "==", .str "!="] && He.tupB K "RESERVED" [.str "input", .str "from", .str "to", .str "list", .str "def", .str "let", .str "if", .str "else", .str "end", .str "while", .str "at", .str "most", .str "check", .str "refuse", .str "answer", .str "return", .str "skip", .str "and", .str "or", .str "not", .str "row", .str "yes", .str "no", .str "turn", .str "fault", .str "when", .str "then"]
abbrev R : PySem.W.OpenRow := PySem.W.OpenLaw.row PySem.Challenge.rw_wayorring_k02_expressions_read_back
abbrev hk : PySem.W.Hook := He.hookX 4 fa fn ts [] ex
def ob (s : PySem.W.SharedT) : He.AlX := He.obsX 4 fa fn ts [] ex (HandSHeadRun.getT s)
theorem ob_eq (s : PySem.W.SharedT) : ob s = hk.obs s.abs := He.obsX_eq (HandSHeadRun.getT_eq s)
def loose : List Str := (["LETTERS", "DIGITS", "LONG_SIGNS", "SHORT_SIGNS", "RESERVED", "MOST_LETTERS", "MOST_DIGITS", "split_row", "is_name", "is_number", "is_numeral", "word_at", "_word_end", "_run_end", "read_expression", "expression_of", "write_expression", "_whole", "_take_signed", "_take_plus", "_take_plain", "_take_expression", "_write_plus", "_law_draws", "_law_take", "_law_wide", "_law_letters", "_law_reserved", "_law_is_name", "_law_is_number"] : List Str) ++ (["_law_name", "_law_number", "_law_plain", "_law_expression", "_law_plus_words", "_law_words_of", "_law_plus_text", "_law_text", "_law_joins", "_law_spaced", "_law_spoilt", "_law_signed", "_law_read_plus", "_law_read_plain", "_law_read", "_law_same"] : List Str)
set_option maxHeartbeats 0 in
theorem run (w : World) : HandSHeadRun.RunEq R (PySem.W.view R.prog [49]) hk ob 20000 loose w := by
  intro os
  kernel_rfl
theorem tx_of {w : World} {K : PySem.W.Frag} {h h2 : Heap} {mg : Str → Option Value} (X : K.In h) (G : h.Ns mainGlobals mg) (c2 : He.SaysX fa fn ts [] ex w h2 K) : Tx K mg := by
  have c := c2.t.d
  have m : ex K = true := c2.more
  unfold ex at m
  obtain ⟨l1, m1⟩ := He.ba m
  refine ⟨?_, ?_, ?_, ?_, ?_, ?_, ?_, ?_, ?_, ?_, ?_, ?_, ?_, ?_, ?_, ?_, ?_, ?_, ?_, ?_, ?_, ?_, ?_, ?_, ?_, ?_, ?_, ?_, ?_, ?_, ?_, ?_, ?_, ?_, ?_, ?_, ?_, ?_, ?_, ?_, ?_, ?_, ?_, ?_, ?_, ?_, ?_, ?_, ?_, ?_, ?_, ?_, ?_, ?_, ?_, ?_, ?_, ?_⟩
  · obtain ⟨fd, F⟩ := c.def_ 0 rfl
    exact ⟨_, fd, F, He.glo_ok X G (c.fact 0 (f := .glo "split_row") rfl)⟩
  · obtain ⟨fd, F⟩ := c.def_ 1 rfl
    exact ⟨_, fd, F, He.glo_ok X G (c.fact 1 (f := .glo "is_name") rfl)⟩
  · obtain ⟨fd, F⟩ := c.def_ 2 rfl
    exact ⟨_, fd, F, He.glo_ok X G (c.fact 2 (f := .glo "is_number") rfl)⟩
  · obtain ⟨fd, F⟩ := c.def_ 3 rfl
    exact ⟨_, fd, F, He.glo_ok X G (c.fact 3 (f := .glo "is_numeral") rfl)⟩
  · obtain ⟨fd, F⟩ := c.def_ 4 rfl
    exact ⟨_, fd, F, He.glo_ok X G (c.fact 4 (f := .glo "word_at") rfl)⟩
  · obtain ⟨fd, F⟩ := c.def_ 5 rfl
    exact ⟨_, fd, F, He.glo_ok X G (c.fact 5 (f := .glo "_word_end") rfl)⟩
  · obtain ⟨fd, F⟩ := c.def_ 6 rfl
    exact ⟨_, fd, F, He.glo_ok X G (c.fact 6 (f := .glo "_run_end") rfl)⟩
  · obtain ⟨fd, F⟩ := c.def_ 7 rfl
    exact ⟨_, fd, F, He.glo_ok X G (c.fact 7 (f := .glo "read_expression") rfl)⟩
  · obtain ⟨fd, F⟩ := c.def_ 8 rfl
    exact ⟨_, fd, F, He.glo_ok X G (c.fact 8 (f := .glo "expression_of") rfl)⟩
  · obtain ⟨fd, F⟩ := c.def_ 9 rfl
    exact ⟨_, fd, F, He.glo_ok X G (c.fact 9 (f := .glo "write_expression") rfl)⟩
  · obtain ⟨fd, F⟩ := c.def_ 10 rfl
    exact ⟨_, fd, F, He.glo_ok X G (c.fact 10 (f := .glo "_whole") rfl)⟩
  · obtain ⟨fd, F⟩ := c.def_ 11 rfl
    exact ⟨_, fd, F, He.glo_ok X G (c.fact 11 (f := .glo "_take_signed") rfl)⟩
  · obtain ⟨fd, F⟩ := c.def_ 12 rfl
    exact ⟨_, fd, F, He.glo_ok X G (c.fact 12 (f := .glo "_take_plus") rfl)⟩
  · obtain ⟨fd, F⟩ := c.def_ 13 rfl
    exact ⟨_, fd, F, He.glo_ok X G (c.fact 13 (f := .glo "_take_plain") rfl)⟩
  · obtain ⟨fd, F⟩ := c.def_ 14 rfl
    exact ⟨_, fd, F, He.glo_ok X G (c.fact 14 (f := .glo "_take_expression") rfl)⟩
  · obtain ⟨fd, F⟩ := c.def_ 15 rfl
    exact ⟨_, fd, F, He.glo_ok X G (c.fact 15 (f := .glo "_write_plus") rfl)⟩
  · obtain ⟨fd, F⟩ := c.def_ 16 rfl
    exact ⟨_, fd, F, He.glo_ok X G (c.fact 16 (f := .glo "_law_draws") rfl)⟩
  · obtain ⟨fd, F⟩ := c.def_ 17 rfl
    exact ⟨_, fd, F, He.glo_ok X G (c.fact 17 (f := .glo "_law_take") rfl)⟩
  · obtain ⟨fd, F⟩ := c.def_ 18 rfl
    exact ⟨_, fd, F, He.glo_ok X G (c.fact 18 (f := .glo "_law_wide") rfl)⟩
  · obtain ⟨fd, F⟩ := c.def_ 19 rfl
    exact ⟨_, fd, F, He.glo_ok X G (c.fact 19 (f := .glo "_law_letters") rfl)⟩
  · obtain ⟨fd, F⟩ := c.def_ 20 rfl
    exact ⟨_, fd, F, He.glo_ok X G (c.fact 20 (f := .glo "_law_reserved") rfl)⟩
  · obtain ⟨fd, F⟩ := c.def_ 21 rfl
    exact ⟨_, fd, F, He.glo_ok X G (c.fact 21 (f := .glo "_law_is_name") rfl)⟩
  · obtain ⟨fd, F⟩ := c.def_ 22 rfl
    exact ⟨_, fd, F, He.glo_ok X G (c.fact 22 (f := .glo "_law_is_number") rfl)⟩
  · obtain ⟨fd, F⟩ := c.def_ 23 rfl
    exact ⟨_, fd, F, He.glo_ok X G (c.fact 23 (f := .glo "_law_name") rfl)⟩
  · obtain ⟨fd, F⟩ := c.def_ 24 rfl
    exact ⟨_, fd, F, He.glo_ok X G (c.fact 24 (f := .glo "_law_number") rfl)⟩
  · obtain ⟨fd, F⟩ := c.def_ 25 rfl
    exact ⟨_, fd, F, He.glo_ok X G (c.fact 25 (f := .glo "_law_plain") rfl)⟩
  · obtain ⟨fd, F⟩ := c.def_ 26 rfl
    exact ⟨_, fd, F, He.glo_ok X G (c.fact 26 (f := .glo "_law_expression") rfl)⟩
  · obtain ⟨fd, F⟩ := c.def_ 27 rfl
    exact ⟨_, fd, F, He.glo_ok X G (c.fact 27 (f := .glo "_law_plus_words") rfl)⟩
  · obtain ⟨fd, F⟩ := c.def_ 28 rfl
    exact ⟨_, fd, F, He.glo_ok X G (c.fact 28 (f := .glo "_law_words_of") rfl)⟩
  · obtain ⟨fd, F⟩ := c.def_ 29 rfl
    exact ⟨_, fd, F, He.glo_ok X G (c.fact 29 (f := .glo "_law_plus_text") rfl)⟩
  · obtain ⟨fd, F⟩ := c.def_ 30 rfl
    exact ⟨_, fd, F, He.glo_ok X G (c.fact 30 (f := .glo "_law_text") rfl)⟩
  · obtain ⟨fd, F⟩ := c.def_ 31 rfl
    exact ⟨_, fd, F, He.glo_ok X G (c.fact 31 (f := .glo "_law_joins") rfl)⟩
  · obtain ⟨fd, F⟩ := c.def_ 32 rfl
    exact ⟨_, fd, F, He.glo_ok X G (c.fact 32 (f := .glo "_law_spaced") rfl)⟩
  · obtain ⟨fd, F⟩ := c.def_ 33 rfl
    exact ⟨_, fd, F, He.glo_ok X G (c.fact 33 (f := .glo "_law_spoilt") rfl)⟩
  · obtain ⟨fd, F⟩ := c.def_ 34 rfl
    exact ⟨_, fd, F, He.glo_ok X G (c.fact 34 (f := .glo "_law_signed") rfl)⟩
  · obtain ⟨fd, F⟩ := c.def_ 35 rfl
    exact ⟨_, fd, F, He.glo_ok X G (c.fact 35 (f := .glo "_law_read_plus") rfl)⟩
  · obtain ⟨fd, F⟩ := c.def_ 36 rfl
    exact ⟨_, fd, F, He.glo_ok X G (c.fact 36 (f := .glo "_law_read_plain") rfl)⟩
  · obtain ⟨fd, F⟩ := c.def_ 37 rfl
    exact ⟨_, fd, F, He.glo_ok X G (c.fact 37 (f := .glo "_law_read") rfl)⟩
  · obtain ⟨fd, F⟩ := c.def_ 38 rfl
    exact ⟨_, fd, F, He.glo_ok X G (c.fact 38 (f := .glo "_law_same") rfl)⟩
  · obtain ⟨fd, F⟩ := c.def_ 39 rfl
    exact ⟨_, fd, F, He.glo_ok X G (c.fact 39 (f := .glo "law") rfl)⟩
  · obtain ⟨t, e⟩ := He.str_ok X G (c.fact 40 (f := .str "LETTERS" "abcdefghijklmnopqrstuvwxyz") rfl)
    exact ⟨_, e, t, rfl⟩
  · obtain ⟨t, e⟩ := He.str_ok X G (c.fact 41 (f := .str "DIGITS" "0123456789") rfl)
    exact ⟨_, e, t, rfl⟩
  · obtain ⟨t, e⟩ := He.str_ok X G (c.fact 42 (f := .str "SHORT_SIGNS" "<>=+-()[],:") rfl)
    exact ⟨_, e, t, rfl⟩
  · obtain ⟨t, e⟩ := He.int_ok X G (c.fact 43 (f := .int "MOST_LETTERS" 12) rfl)
    exact ⟨_, e, t, rfl⟩
  · obtain ⟨t, e⟩ := He.int_ok X G (c.fact 44 (f := .int "MOST_DIGITS" 10) rfl)
    exact ⟨_, e, t, rfl⟩
  · exact ⟨_, He.glo_ok X G (c.fact 45 (f := .glo "LONG_SIGNS") rfl), rfl⟩
  · exact He.tupB_ok l1
  · exact ⟨_, He.glo_ok X G (c.fact 46 (f := .glo "RESERVED") rfl), rfl⟩
  · exact He.tupB_ok m1
  · exact He.free_ok X G (c.fact 47 (f := .free "abs") rfl)
  · exact He.free_ok X G (c.fact 48 (f := .free "bool") rfl)
  · exact He.free_ok X G (c.fact 49 (f := .free "int") rfl)
  · exact He.free_ok X G (c.fact 50 (f := .free "isinstance") rfl)
  · exact He.free_ok X G (c.fact 51 (f := .free "len") rfl)
  · exact He.free_ok X G (c.fact 52 (f := .free "list") rfl)
  · exact He.free_ok X G (c.fact 53 (f := .free "range") rfl)
  · exact He.free_ok X G (c.fact 54 (f := .free "str") rfl)
  · exact He.free_ok X G (c.fact 55 (f := .free "tuple") rfl)
def spLaw (K : PySem.W.Frag) : Sp := fun vs H Q _ => ∃ (a : Addr) (ns : List Int), vs = [.ref a] ∧ SqL K H a (ns.map V.int) ∧ ns.length ≤ 63 ∧ ∀ H', Q (.bl true) H'
end K02
namespace K02
open PySem PySem.Spec PyProof.Rows L2 Wy WM

section
variable {P : Program} {w : World} {K : PySem.W.Frag} {mg : Str → Option Value} {base : Heap}
theorem k_law_take (T : Tx K mg) : C8.Cal P w K mg base 1 "_law_take" spTake [] := by
  refine cal_of (N := n_law_take) T.d_law_take sc_law_take (fun _ _ F => F.bindsN fun _ _ _ _ _ _ us hl => match us, hl with | [_, _], _ => rfl) (fun vs H Q E h => ?_) (fun f cdv A outer s H vs Q E hr h => ?_)
  · obtain ⟨a, d, m, rfl, _⟩ := h
    rfl
  · obtain ⟨a, d, m, rfl, hh, hm, q⟩ := h
    have nd := hh.ne
    obtain ⟨n, ds, h1, h2, h3⟩ := hh
    refine ⟨_, (pss_cons (ps_asg (pe_ix (ix_seq : IxR _ (rIx K)) (pv 0) pe_int (fun _ _ => rfl)) (pg_name (i := 2) sc_law_take.nd rfl (Or.inl rfl))) (pss_cons (ps_asg (pe_op op_add3 (pv 2) pe_int) (pg_sub (pv 0) pe_int set_list)) (pss_cons (ps_asg (pe_ix (ix_seq : IxR _ (rIx K)) (pv 0) pe_int (fun _ _ => rfl)) (pg_name (i := 3) sc_law_take.nd rfl (Or.inl rfl))) (pss_cons (ps_if (pt_cmpR op_ge (pv 2) (pe_callB (call_len2 : CallR _ _ (rLn K)) (by rfl) T.z_len (by decide +kernel) (pa_cons (pv 3) pa_nil)) (nomark _)) (pss_one (ps_ret pe_int)) pss_nil) (pss_one (ps_ret (pe_op op_mod (pe_op op_fdiv (pe_callTy call_int2 (by rfl) T.z_int (by decide +kernel) (pa_cons (pe_ix (ix_seq : IxR _ (rIx K)) (pv 3) (pv 2) (fun _ _ => rfl)) pa_nil)) pe_int) (pv 1)))))))), ?_⟩
    walk_at "ss"
    refine o_ixL (lst_of h1) (atI_nat (j := 1) rfl) ?_
    walk_at "ss"
    refine st_L h1 (j := 1) rfl fun H2 c2 e2 => ?_
    have h3' := c2.at h3 nd
    walk_at "ss"
    refine o_ixL (lst_of e2) (atI_nat (j := 0) rfl) ?_
    walk_at "ss"
    refine b_lenL (lst_of h3') ?_
    walk_at "ss"
    refine ite2 (fun e => ?_) (fun e => ?_)
    · walk_at "ss"
      exact q 0 H2 (Int.le_refl 0) hm c2 ⟨n + 1, ds, e2, by omega, h3'⟩
    · have e := of_decide_eq_false (Bool.eq_false_iff.mpr e)
      rw [List.length_map] at e
      have g : (ds.map V.int)[n.toNat]? = some (.int ds[n.toNat]) := by
        rw [List.getElem?_map, List.getElem?_eq_getElem (by omega)]
        rfl
      walk_at "ss"
      refine o_ixL (lst_of h3') (atI_of (j := n.toNat) (by omega) g) ?_
      walk_at "ss"
      exact q _ H2 (Int.emod_nonneg _ (by omega)) (Int.emod_lt_of_pos _ hm) c2 ⟨n + 1, ds, e2, by omega, h3'⟩
def spDraws (K : PySem.W.Frag) : Sp := fun vs H Q _ => ∃ (a : Addr) (ns : List Int) (m : Int), vs = [.ref a, .int m] ∧ SqL K H a (ns.map V.int) ∧ ns.length ≤ 63 ∧ 0 ≤ m ∧ m ≤ 10000 ∧ ∀ p H' ds, Same H H' → H p = none → H' p = some (.lst ((ds : List Int).map V.int)) → Q (.ref p) H'
theorem k_law_draws (T : Tx K mg) : C8.Cal P w K mg base 1 "_law_draws" (spDraws K) [] := by
  refine cal_of (N := n_law_draws) T.d_law_draws sc_law_draws (fun _ _ F => F.bindsN fun _ _ _ _ _ _ us hl => match us, hl with | [_, _], _ => rfl) (fun vs H Q E h => ?_) (fun f cdv A outer s H vs Q E hr h => ?_)
  · obtain ⟨a, ns, m, rfl, _⟩ := h
    rfl
  · obtain ⟨a, ns, m, rfl, hS, hl, h0, hm, q⟩ := h
    refine ⟨_, (pss_cons (ps_setLc (i := 3) (own := [("cell", 2)]) (g := gName 2) (by rfl) sc_law_draws.nd rfl rfl (sw_true rfl rfl rfl (by decide +kernel)) (pi_list (pv 0) : PI _ _ _ (iList K _)) (blkOk_by (own := [("cell", 2)]) (N := n_law_draws) (sc := defScope s_law_draws) (by decide +kernel)) (fun _ _ _ _ _ => pg_name (i := 2) sc_law_draws.nd rfl (Or.inl rfl)) (fun _ _ _ _ _ => pts_nil) (fun _ _ _ _ _ => (pe_callB call_abs2 (by rfl) T.z_abs (by decide +kernel) (pa_cons (pe_callTy call_int2 (by rfl) T.z_int (by decide +kernel) (pa_cons (pv 2) pa_nil)) pa_nil)))) (pss_cons (ps_asg (pe_lst pa_nil) (pg_name (i := 4) sc_law_draws.nd rfl (Or.inl rfl))) (pss_cons (ps_for PassesOwn.never rfl (pi_range1 (by rfl) T.z_range (pa_cons (pv 1) pa_nil)) (pg_name (i := 5) sc_law_draws.nd rfl (Or.inl rfl)) (pss_cons (ps_asg (pv 5) (pg_name (i := 2) sc_law_draws.nd rfl (Or.inl rfl))) (C8.pss_cut (ps_if (pt_cmpR op_gt (pe_callB (call_len2 : CallR _ _ (rLn K)) (by rfl) T.z_len (by decide +kernel) (pa_cons (pv 0) pa_nil)) pe_int (nomark _)) (pss_cons (ps_asg (pe_op op_mod (pv 5) (pe_callB (call_len2 : CallR _ _ (rLn K)) (by rfl) T.z_len (by decide +kernel) (pa_cons (pv 0) pa_nil))) (pg_name (i := 6) sc_law_draws.nd rfl (Or.inl rfl))) (pss_cons (ps_asg (pe_callTy call_int2 (by rfl) T.z_int (by decide +kernel) (pa_cons (pe_ix (ix_seq : IxR _ (rIx K)) (pv 0) (pv 6) (fun _ _ => rfl)) pa_nil)) (pg_name (i := 2) sc_law_draws.nd rfl (Or.inl rfl))) (pss_one (ps_if (PW.pt (pw_and (pt_cmpR op_ge (pv 2) (pe_op op_pow pe_int pe_int) (nomark _)) (pw_and1 (pt_cmpR op_gt (pe_ix (ix_seq : IxR _ (rIx K)) (pv 3) (pv 6) (fun _ _ => rfl)) pe_int (nomark _))))) (pss_cons (ps_expr (pe_bm PySem.F.plainAttrs_list PySem.F.slot_list_append PySem.F.type_list_append mt_append (pv 4) (pa_cons (pe_op op_mod (pe_callTy call_int2 (by rfl) T.z_int (by decide +kernel) (pa_cons (pe_ix (ix_seq : IxR _ (rIx K)) (pv 3) (pv 6) (fun _ _ => rfl)) pa_nil)) pe_int) pa_nil) : PE _ _ (tBM K _ _ _ _))) (pss_cons (ps_asg (pe_op op_fdiv (pe_callTy call_int2 (by rfl) T.z_int (by decide +kernel) (pa_cons (pe_ix (ix_seq : IxR _ (rIx K)) (pv 3) (pv 6) (fun _ _ => rfl)) pa_nil)) pe_int) (pg_sub (pv 3) (pv 6) set_list)) (pss_one ps_continue))) pss_nil)))) pss_nil) (pss_cons (ps_asg (pe_op op_mod (pe_callTy call_int2 (by rfl) T.z_int (by decide +kernel) (pa_cons (pe_op op_add3 (pe_op op_add3 (pe_op op_mul2 (pv 2) pe_int) (pe_op op_mul2 (pv 5) pe_int)) pe_int) pa_nil)) pe_int) (pg_name (i := 7) sc_law_draws.nd rfl (Or.inl rfl))) (pss_cons (ps_asg (pe_op op_mod (pe_callTy call_int2 (by rfl) T.z_int (by decide +kernel) (pa_cons (pe_op op_add3 (pe_op op_fdiv (pe_op op_mul2 (pv 7) (pv 7)) pe_int) (pv 7)) pa_nil)) pe_int) (pg_name (i := 7) sc_law_draws.nd rfl (Or.inl rfl))) (pss_one (ps_expr (pe_bm PySem.F.plainAttrs_list PySem.F.slot_list_append PySem.F.type_list_append mt_append (pv 4) (pa_cons (pe_op op_mod (pe_callTy call_int2 (by rfl) T.z_int (by decide +kernel) (pa_cons (pe_op op_add3 (pe_op op_fdiv (pe_op op_mul2 (pv 7) (pv 7)) pe_int) (pe_op op_mul2 (pv 5) pe_int)) pa_nil)) pe_int) pa_nil) : PE _ _ (tBM K _ _ _ _))))))))) (pss_one (ps_ret (pv 4)))))), ?_⟩
    walk_at "ss"
    refine k_l hS ?_
    refine c_list (xs := ns.map V.int) (fun D i H1 => Same H H1 ∧ ∃ rs : List Int, rs.length = i ∧ H1 D = some (.lst (rs.map V.int))) (fun D H1 nD s1 e1 => ⟨s1, [], rfl, e1⟩) (fun D i H1 hi nD p => p.1.seq hS) (fun D i x H1 hx nD p => ?_) (fun D H1 nD p => ?_)
    · obtain ⟨s1, rs, lr, er⟩ := p
      have hi := (List.getElem?_eq_some_iff.mp hx).1
      rw [List.length_map] at hi
      obtain ⟨z, rfl⟩ : ∃ z, x = V.int z := by
        rw [List.getElem?_map] at hx
        cases e : ns[i]? with
        | none =>
          rw [e] at hx
          cases hx
        | some z =>
          rw [e] at hx
          exact ⟨z, (Option.some.inj hx).symm⟩
      walk_at "ss"
      refine ⟨rfl, ?_⟩
      walk_at "ss"
      refine iteT ?_
      walk_at "ss"
      exact c_out er (by rw [List.length_map, lr]; exact small1000 (by omega)) fun H2 c2 e2 => ⟨c2.same s1 nD, rs ++ [if z < 0 then -z else z], by simp [lr], by rw [List.map_append]; exact e2⟩
    · obtain ⟨s1, rs, lr, er⟩ := p
      rw [List.length_map] at lr
      walk_at "ss"
      refine n_obj (Nat.zero_le _) fun d H2 nd s2 e2 => ?_
      have nrd : D ≠ d := ne_of_none er nd
      have nd0 : H d = none := s1.free nd
      walk_at "ss"
      refine k_r1 (by omega) (by omega) ?_
      refine f_range (fun i σ H' => ∃ c k t x, ∃ ds rs : List Int, σ = [some (.ref a), some (.int m), c, some (.ref D), some (.ref d), k, t, x] ∧ Same H H' ∧ H' D = some (.lst (rs.map V.int)) ∧ rs.length = ns.length ∧ H' d = some (.lst (ds.map V.int)) ∧ ds.length ≤ i)
        ⟨_, _, _, _, [], rs, rfl, s1.trans s2, s2 _ _ er, lr, e2, Nat.le_refl _⟩ (fun i σ H3 hi p => ?_) (fun σ H3 p => ?_)
      · obtain ⟨c, k, t, x, ds, rs, rfl, s3, e3, l3, f3, g3⟩ := p
        have sz : (ds.map V.int).length < sizeLine := small1000' (by rw [List.length_map]; omega)
        walk_at "ss"
        refine s_cut (fun σ H' => ∃ (c : Int) (t x : Option V) (rs : List Int), σ = [some (.ref a), some (.int m), some (.int c), some (.ref D), some (.ref d), some (.int (0 + (i : Int))), t, x] ∧ Same H H' ∧ H' D = some (.lst (rs.map V.int)) ∧ rs.length = ns.length ∧ H' d = some (.lst (ds.map V.int))) ?_ (fun σ H4 p => ?_)
        · walk_at "ss"
          refine b_lenL (s3.seq hS) ?_
          walk_at "ss"
          refine ite2 (fun e => ?_) (fun e => ?_)
          · have e := of_decide_eq_true e
            rw [List.length_map] at e
            walk_at "ss"
            refine b_lenL (s3.seq hS) ?_
            rw [List.length_map]
            refine o_mod e ?_
            walk_at "ss"
            have b1 : 0 ≤ (0 + (i : Int)) % (ns.length : Int) := Int.emod_nonneg _ (by omega)
            have b2 : (0 + (i : Int)) % (ns.length : Int) < (ns.length : Int) := Int.emod_lt_of_pos _ e
            obtain ⟨j, hj⟩ : ∃ j : Nat, (0 + (i : Int)) % (ns.length : Int) = (j : Int) := ⟨_, (Int.toNat_of_nonneg b1).symm⟩
            rw [hj]
            have hj1 : j < ns.length := by omega
            have hj2 : j < rs.length := by omega
            have g1 : (ns.map V.int)[j]? = some (.int ns[j]) := by
              rw [List.getElem?_map, List.getElem?_eq_getElem hj1]
              rfl
            have g2 : (rs.map V.int)[j]? = some (.int rs[j]) := by
              rw [List.getElem?_map, List.getElem?_eq_getElem hj2]
              rfl
            refine o_ixL (s3.seq hS) (atI_nat g1) ?_
            walk_at "ss"
            refine ite2 (fun e => ?_) (fun e => ?_)
            · walk_at "ss"
              refine o_ixL (lst_of e3) (atI_nat g2) ?_
              walk_at "ss"
              refine ite2 (fun e => ?_) (fun e => ?_)
              · walk_at "ss"
                refine m_ty (lst_of f3) ?_
                walk_at "ss"
                refine o_ixL (lst_of e3) (atI_nat g2) ?_
                walk_at "ss"
                refine m_app f3 sz fun H4 c4 f4 => ?_
                have e4 := c4.at e3 nrd
                have s4 := c4.same s3 nd0
                walk_at "ss"
                refine o_ixL (lst_of e4) (atI_nat g2) ?_
                walk_at "ss"
                refine st_L e4 (j := j) (ixN_nat (by rw [List.length_map]; exact hj2)) fun H5 c5 e5 => ?_
                have f5 := c5.at f4 nrd.symm
                have s5 := c5.same s4 nD
                walk_at "ss"
                refine ⟨_, _, _, _, ds ++ [rs[j] % 1000003], rs.set j (rs[j] / 1000003), rfl, s5, ?_, by rw [List.length_set]; exact l3, ?_, by rw [List.length_append]; exact Nat.succ_le_succ g3⟩
                · rw [e5, List.map_set]
                · rw [f5, List.map_append]
                  rfl
              · walk_at "ss"
                exact ⟨_, _, _, rs, rfl, s3, e3, l3, f3⟩
            · walk_at "ss"
              refine iteF ?_
              walk_at "ss"
              exact ⟨_, _, _, rs, rfl, s3, e3, l3, f3⟩
          · walk_at "ss"
            exact ⟨_, _, _, rs, rfl, s3, e3, l3, f3⟩
        · obtain ⟨c, t, x, rs, rfl, s3, e3, l3, f3⟩ := p
          walk_at "ss"
          refine m_ty (lst_of f3) ?_
          walk_at "ss"
          refine m_app f3 sz fun H5 c5 f5 => ?_
          obtain ⟨ds', f6, l6⟩ := snoc_int f5
          exact ⟨_, _, _, _, ds', rs, rfl, c5.same s3 nd0, c5.at e3 nrd, l3, f6, by omega⟩
      · obtain ⟨c, k, t, x, ds, rs, rfl, s3, e3, l3, f3, g3⟩ := p
        walk_at "ss"
        exact q d H3 ds s3 nd0 f3
end
end K02
namespace K02
open PySem PySem.Spec PyProof.Rows L2 Wy WM

section
variable {P : Program} {w : World} {K : PySem.W.Frag} {mg : Str → Option Value} {base : Heap}
/-! ### the program -/
def spRunEnd : Sp := fun vs H Q _ => ∃ (z p : Str) (i : Nat), vs = [.str z, .int i, .str p] ∧ z.length ≤ 1000000 ∧ i ≤ z.length ∧ Q (.int (runEnd (tl z) (tl p) i : Nat)) H
theorem k_run_end (T : Tx K mg) : C8.Cal P w K mg base 1 "_run_end" spRunEnd [] := by
  refine cal_of (N := n_run_end) T.d_run_end sc_run_end (fun _ _ F => F.bindsN fun _ _ _ _ _ _ us hl => match us, hl with | [_, _, _], _ => rfl) (fun vs H Q E h => ?_) (fun f cdv A outer s H vs Q E hr h => ?_)
  · obtain ⟨z, p, i, rfl, _⟩ := h
    rfl
  · obtain ⟨z, p, i, rfl, hz, hi, q⟩ := h
    have hz2 : z.length ≤ sizeLine := Nat.le_of_lt (Nat.lt_of_le_of_lt hz (by decide))
    refine ⟨_, (pss_cons (ps_while PassesOwn.never (PW.pt (pw_and (pt_cmpR op_lt (pv 1) (pe_callB (call_len2 : CallR _ _ (rLn K)) (by rfl) T.z_len (by decide +kernel) (pa_cons (pv 0) pa_nil)) (nomark _)) (pw_and1 (pt_cmpR (op_in2 : OpR _ _ (rIn2 K)) (pe_ix (ix_seq : IxR _ (rIx K)) (pv 0) (pv 1) (fun _ _ => rfl)) (pv 2) (by rfl))))) (pss_one (ps_aug (i := 1) sc_run_end.nd rfl (Or.inl rfl) pe_int ip_add))) (pss_one (ps_ret (pv 1)))), ?_⟩
    walk_at "ss"
    refine s_while (fun m σ H' => H' = H ∧ ∃ j : Nat, m = z.length - j ∧ j ≤ z.length ∧ runEnd (tl z) (tl p) j = runEnd (tl z) (tl p) i ∧ σ = [some (.str z), some (.int j), some (.str p)]) (z.length - i) ⟨rfl, i, rfl, hi, rfl, rfl⟩ fun m σ H' hW => ?_
    obtain ⟨rfl, j, rfl, hj, er, rfl⟩ := hW
    walk_at "ss"
    refine b_lenS hz2 ?_
    walk_at "ss"
    refine ite2 (fun e => ?_) (fun e => ?_)
    · have e := of_decide_eq_true e
      obtain ⟨c, g1, g2⟩ := atI_cps (z := z) (i := j) (by omega)
      walk_at "ss"
      refine o_ixS hz2 g2 ?_
      walk_at "ss"
      refine ite2 (fun e2 => ?_) (fun e2 => ?_)
      · have e2 := of_decide_eq_true e2
        refine k_while ?_
        walk_at "ss"
        exact ⟨_, by omega, rfl, j + 1, rfl, by omega, by rw [← er]; exact (runEnd_yes g1 e2).symm, rfl⟩
      · have e2 := of_decide_eq_false (Bool.eq_false_iff.mpr e2)
        walk_at "ss"
        rw [← er, runEnd_no g1 e2] at q
        exact q
    · have e := of_decide_eq_false (Bool.eq_false_iff.mpr e)
      refine iteF ?_
      walk_at "ss"
      rw [← er, runEnd_out (by rw [← str_len]; omega)] at q
      exact q
def spWordEnd : Sp := fun vs H Q _ => ∃ (z : Str) (i c : Nat), vs = [.str z, .int i] ∧ z.length ≤ 1000000 ∧ (tl z)[i]? = some c ∧ Q (.int (wordEnd z i c : Nat)) H
theorem k_word_end (T : Tx K mg) : C8.Cal P w K mg base 2 "_word_end" spWordEnd [] := by
  refine cal_of (N := n_word_end) T.d_word_end sc_word_end (fun _ _ F => F.bindsN fun _ _ _ _ _ _ us hl => match us, hl with | [_, _], _ => rfl) (fun vs H Q E h => ?_) (fun f cdv A outer s H vs Q E hr h => ?_)
  · obtain ⟨z, i, c, rfl, _⟩ := h
    rfl
  · obtain ⟨z, i, c, rfl, hz, g1, q⟩ := h
    have hz2 : z.length ≤ sizeLine := Nat.le_of_lt (Nat.lt_of_le_of_lt hz (by decide))
    have hi : i < z.length := by
      rw [str_len]
      exact (List.getElem?_eq_some_iff.mp g1).1
    have g2 : atI z.cps.toList (i : Int) = some c := atI_nat g1
    unfold wordEnd at q
    refine ⟨_, (pss_cons (ps_if (pt_cmpR (op_in2 : OpR _ _ (rIn2 K)) (pe_ix (ix_seq : IxR _ (rIx K)) (pv 0) (pv 1) (fun _ _ => rfl)) (C8.pe_gc (by rfl) T.g_LETTERS) (by rfl)) (pss_one (ps_ret (C8.pe_c (k_run_end T) hr (by first | decide | omega) (by rfl) (pa_cons (pv 0) (pa_cons (pv 1) (pa_cons (C8.pe_gc (by rfl) T.g_LETTERS) pa_nil)))))) pss_nil) (pss_cons (ps_if (pt_cmpR (op_in2 : OpR _ _ (rIn2 K)) (pe_ix (ix_seq : IxR _ (rIx K)) (pv 0) (pv 1) (fun _ _ => rfl)) (C8.pe_gc (by rfl) T.g_DIGITS) (by rfl)) (pss_one (ps_ret (C8.pe_c (k_run_end T) hr (by first | decide | omega) (by rfl) (pa_cons (pv 0) (pa_cons (pv 1) (pa_cons (C8.pe_gc (by rfl) T.g_DIGITS) pa_nil)))))) pss_nil) (pss_cons (ps_if (pt_cmpR (op_in2 : OpR _ _ (rIn2 K)) (pe_slice (sl_2 : SlR _ (rSl2 K)) (pv 0) (po_some (pv 1)) (po_some (pe_op op_add3 (pv 1) pe_int))) (C8.pe_gc (by rfl) T.g_LONG_SIGNS) (by rfl)) (pss_one (ps_ret (pe_op op_add3 (pv 1) pe_int))) pss_nil) (pss_cons (ps_if (pt_cmpR (op_in2 : OpR _ _ (rIn2 K)) (pe_ix (ix_seq : IxR _ (rIx K)) (pv 0) (pv 1) (fun _ _ => rfl)) (C8.pe_gc (by rfl) T.g_SHORT_SIGNS) (by rfl)) (pss_one (ps_ret (pe_op op_add3 (pv 1) pe_int))) pss_nil) (pss_one (ps_ret (pv 1))))))), ?_⟩
    walk_at "ss"
    refine o_ixS hz2 g2 ?_
    walk_at "ss"
    refine ite2 (fun e => ?_) (fun e => ?_)
    · have e := of_decide_eq_true e
      rw [if_pos e] at q
      walk_at "ss"
      exact ⟨z, LET, i, rfl, hz, Nat.le_of_lt hi, q⟩
    · have e := of_decide_eq_false (Bool.eq_false_iff.mpr e)
      rw [if_neg e] at q
      walk_at "ss"
      refine o_ixS hz2 g2 ?_
      walk_at "ss"
      refine ite2 (fun e => ?_) (fun e => ?_)
      · have e := of_decide_eq_true e
        rw [if_pos e] at q
        walk_at "ss"
        exact ⟨z, DIG, i, rfl, hz, Nat.le_of_lt hi, q⟩
      · have e := of_decide_eq_false (Bool.eq_false_iff.mpr e)
        rw [if_neg e] at q
        walk_at "ss"
        refine l_S hz2 ?_
        walk_at "ss"
        refine o_inT (T.t_LONG_SIGNS _) rfl (by decide +kernel) ?_
        walk_at "ss"
        refine ite2 (fun e => ?_) (fun e => ?_)
        · have e : pairAt z i = true := e
          rw [if_pos e] at q
          walk_at "ss"
          exact q
        · have e : ¬ pairAt z i = true := e
          rw [if_neg e] at q
          walk_at "ss"
          refine o_ixS hz2 g2 ?_
          walk_at "ss"
          refine ite2 (fun e => ?_) (fun e => ?_)
          · have e := of_decide_eq_true e
            rw [if_pos e] at q
            walk_at "ss"
            exact q
          · have e := of_decide_eq_false (Bool.eq_false_iff.mpr e)
            rw [if_neg e] at q
            walk_at "ss"
            exact q
/-- what a list of words, or None, looks like -/
def WordsV (H : Hp) (v : V) (o : Option (List Str)) : Prop := match o with
  | none => v = .non
  | some ws => ∃ p, v = .ref p ∧ H p = some (.lst (ws.map V.str))
/-- what a new list of words, or None, looks like -/
def NewWords (H0 H : Hp) (v : V) (o : Option (List Str)) : Prop := match o with
  | none => v = .non
  | some ws => ∃ p, v = .ref p ∧ H0 p = none ∧ H p = some (.lst (ws.map V.str))
def spSplit : Sp := fun vs H Q _ => ∃ (z : Str), vs = [.str z] ∧ z.length ≤ 1000000 ∧ ∀ v H', Same H H' → NewWords H H' v (wordsW z) → Q v H'
theorem k_split_row (T : Tx K mg) : C8.Cal P w K mg base 3 "split_row" spSplit [] := by
  refine cal_of (N := n_split_row) T.d_split_row sc_split_row (fun _ _ F => F.bindsN fun _ _ _ _ _ _ us hl => match us, hl with | [_], _ => rfl) (fun vs H Q E h => ?_) (fun f cdv A outer s H vs Q E hr h => ?_)
  · obtain ⟨z, rfl, _⟩ := h
    rfl
  · obtain ⟨z, rfl, hz, q⟩ := h
    have hz2 : z.length ≤ sizeLine := Nat.le_of_lt (Nat.lt_of_le_of_lt hz (by decide))
    refine ⟨_, (pss_cons (ps_asg (pe_lst pa_nil) (pg_name (i := 1) sc_split_row.nd rfl (Or.inl rfl))) (pss_cons (ps_asg pe_int (pg_name (i := 2) sc_split_row.nd rfl (Or.inl rfl))) (pss_cons (ps_while PassesOwn.never (pt_cmpR op_lt (pv 2) (pe_callB (call_len2 : CallR _ _ (rLn K)) (by rfl) T.z_len (by decide +kernel) (pa_cons (pv 0) pa_nil)) (nomark _)) (pss_cons (ps_if (pt_cmpR (op_eq2 hr.units : OpR _ _ (rEq2 K)) (pe_ix (ix_seq : IxR _ (rIx K)) (pv 0) (pv 2) (fun _ _ => rfl)) pe_str (nomark _)) (pss_cons (ps_aug (i := 2) sc_split_row.nd rfl (Or.inl rfl) pe_int ip_add) (pss_one ps_continue)) pss_nil) (pss_cons (ps_asg (C8.pe_c (k_word_end T) hr (by first | decide | omega) (by rfl) (pa_cons (pv 0) (pa_cons (pv 2) pa_nil))) (pg_name (i := 3) sc_split_row.nd rfl (Or.inl rfl))) (pss_cons (ps_if (pt_cmpR (op_eq2 hr.units : OpR _ _ (rEq2 K)) (pv 3) (pv 2) (nomark _)) (pss_one (ps_ret pe_non)) pss_nil) (pss_cons (ps_expr (pe_bm PySem.F.plainAttrs_list PySem.F.slot_list_append PySem.F.type_list_append mt_append (pv 1) (pa_cons (pe_slice (sl_2 : SlR _ (rSl2 K)) (pv 0) (po_some (pv 2)) (po_some (pv 3))) pa_nil) : PE _ _ (tBM K _ _ _ _))) (pss_one (ps_asg (pv 3) (pg_name (i := 2) sc_split_row.nd rfl (Or.inl rfl))))))))) (pss_one (ps_ret (pv 1)))))), ?_⟩
    walk_at "ss"
    refine n_obj (Nat.zero_le _) fun p H1 np s1 e1 => ?_
    walk_at "ss"
    refine s_while (fun m σ H' => Same H H' ∧ ∃ (j : Nat) (acc : List Str) (x : Option V), m = z.length - j ∧ j ≤ z.length ∧ acc.length ≤ j ∧ from_ z j acc = wordsW z ∧ H' p = some (.lst (acc.map V.str)) ∧ σ = [some (.str z), some (.ref p), some (.int j), x]) z.length
      ⟨s1, 0, [], none, rfl, Nat.zero_le _, Nat.le_refl _, rfl, e1, rfl⟩ fun m σ H2 hW => ?_
    obtain ⟨s2, j, acc, x, rfl, hj, ha, er, e2, rfl⟩ := hW
    walk_at "ss"
    refine b_lenS hz2 ?_
    walk_at "ss"
    refine ite2 (fun e => ?_) (fun e => ?_)
    · have e := of_decide_eq_true e
      have hj1 : j < z.length := by omega
      obtain ⟨c, g1, g2⟩ := atI_cps (z := z) (i := j) hj1
      have st := from_step (acc := acc) g1
      rw [er] at st
      refine k_while ?_
      walk_at "ss"
      refine o_ixS hz2 g2 ?_
      walk_at "ss"
      refine o_eqS rfl ?_
      walk_at "ss"
      refine ite2 (fun e => ?_) (fun e => ?_)
      · have ec : c = 32 := (sign_eq (y := (" " : Str)) (by decide +kernel)).mp e
        rw [if_pos ec] at st
        walk_at "ss"
        exact ⟨_, by omega, s2, j + 1, acc, x, rfl, by omega, by omega, st.symm, e2, rfl⟩
      · have ec : ¬ c = 32 := fun z => e ((sign_eq (y := (" " : Str)) (by decide +kernel)).mpr z)
        rw [if_neg ec] at st
        walk_at "ss"
        refine ⟨z, j, c, rfl, hz, g1, ?_⟩
        walk_at "ss"
        refine o_eqS rfl ?_
        walk_at "ss"
        refine ite2 (fun e => ?_) (fun e => ?_)
        · have e := V.int.inj (of_decide_eq_true e)
          rw [if_pos (by omega)] at st
          walk_at "ss"
          refine q _ _ s2 ?_
          rw [st]
          rfl
        · have e : ¬ ((wordEnd z j c : Nat) : Int) = (j : Int) := fun z => e (by rw [z]; exact decide_eq_true rfl)
          rw [if_neg (by omega)] at st
          walk_at "ss"
          refine m_ty (lst_of e2) ?_
          walk_at "ss"
          refine l_S hz2 ?_
          walk_at "ss"
          refine m_app e2 (by rw [List.length_map]; exact Nat.lt_of_le_of_lt (Nat.le_trans ha hj) (Nat.lt_of_le_of_lt hz (by decide))) fun H3 c3 e3 => ?_
          have g3 := wordEnd_ge z j c
          have g4 := wordEnd_le g1
          walk_at "ss"
          refine ⟨_, ?_, c3.same s2 np, wordEnd z j c, acc ++ [_], _, rfl, g4, ?_, st.symm, ?_, rfl⟩
          · omega
          · rw [List.length_append]
            show acc.length + 1 ≤ _
            omega
          · rw [List.map_append]
            exact e3
    · have e := of_decide_eq_false (Bool.eq_false_iff.mpr e)
      walk_at "ss"
      refine q _ _ s2 ?_
      rw [← er, from_out (by omega)]
      exact ⟨p, rfl, np, e2⟩
end
end K02
namespace K02
open PySem PySem.Spec PyProof.Rows L2 Wy WM

section
variable {P : Program} {w : World} {K : PySem.W.Frag} {mg : Str → Option Value} {base : Heap}
def spNameW : Sp := fun vs H Q _ => ∃ (z : Str), vs = [.str z] ∧ z.length ≤ 1000000 ∧ ∀ H', Same H H' → Q (.bl (nameW z)) H'
def spNumW : Sp := fun vs H Q _ => ∃ (z : Str), vs = [.str z] ∧ z.length ≤ 1000000 ∧ ∀ H', Same H H' → Q (.bl (numberW z)) H'
theorem k_is_name (T : Tx K mg) : C8.Cal P w K mg base 2 "is_name" spNameW [] := by
  refine cal_of (N := n_is_name) T.d_is_name sc_is_name (fun _ _ F => F.bindsN fun _ _ _ _ _ _ us hl => match us, hl with | [_], _ => rfl) (fun vs H Q E h => ?_) (fun f cdv A outer s H vs Q E hr h => ?_)
  · obtain ⟨z, rfl, _⟩ := h
    rfl
  · obtain ⟨z, rfl, hz, q⟩ := h
    have hz2 : z.length ≤ sizeLine := Nat.le_of_lt (Nat.lt_of_le_of_lt hz (by decide))
    refine ⟨_, (pss_cons (ps_if (PW.pt (pw_or (pt_not (pt_chain op_le op_le pe_int (pe_callB (call_len2 : CallR _ _ (rLn K)) (by rfl) T.z_len (by decide +kernel) (pa_cons (pv 0) pa_nil)) (C8.pe_gc (by rfl) T.g_MOST_LETTERS))) (pw_or1 (pt_cmpR (op_in2 : OpR _ _ (rIn2 K)) (pv 0) (C8.pe_gc (by rfl) T.g_RESERVED) (by rfl))))) (pss_one (ps_ret pe_bl)) pss_nil) (pss_one (ps_ret (pe_cmpR (op_eq2 hr.units : OpR _ _ (rEq2 K)) (C8.pe_c (k_run_end T) hr (by first | decide | omega) (by rfl) (pa_cons (pv 0) (pa_cons pe_int (pa_cons (C8.pe_gc (by rfl) T.g_LETTERS) pa_nil)))) (pe_callB (call_len2 : CallR _ _ (rLn K)) (by rfl) T.z_len (by decide +kernel) (pa_cons (pv 0) pa_nil)) (nomark _))))), ?_⟩
    unfold nameW at q
    walk_at "ss"
    refine b_lenS hz2 ?_
    walk_at "ss"
    refine ite2 (fun e => ?_) (fun e => ?_)
    · have e := of_decide_eq_true e
      rw [decide_eq_true (show 1 ≤ z.length by omega)] at q
      walk_at "ss"
      by_cases e2 : (z.length : Int) ≤ 12
      · rw [decide_eq_true e2]
        rw [decide_eq_true (show z.length ≤ 12 by omega)] at q
        refine iteF ?_
        walk_at "ss"
        refine o_inT (T.t_RESERVED _) rfl (by decide +kernel) ?_
        walk_at "ss"
        cases e3 : inV (.str z) c_RESERVED with
        | true =>
          rw [e3] at q
          refine iteT ?_
          walk_at "ss"
          exact q H (Same.refl H)
        | false =>
          rw [e3] at q
          refine iteF ?_
          walk_at "ss"
          refine ⟨z, LET, 0, rfl, hz, Nat.zero_le _, ?_⟩
          walk_at "ss"
          refine b_lenS hz2 ?_
          refine o_eqS rfl ?_
          walk_at "ss"
          have e4 : decide (V.int ((runEnd (tl z) (tl LET) 0 : Nat) : Int) = V.int (z.length : Int)) = decide (∀ c ∈ tl z, c ∈ tl LET) := by
            rw [decide_eq_decide, ← runEnd_all, ← str_len]
            exact ⟨fun e => by have := V.int.inj e; omega, fun e => by rw [e]⟩
          rw [e4]
          exact q H (Same.refl H)
      · rw [decide_eq_false e2]
        rw [decide_eq_false (show ¬ z.length ≤ 12 by omega)] at q
        refine iteT ?_
        refine iteT ?_
        walk_at "ss"
        exact q H (Same.refl H)
    · have e := of_decide_eq_false (Bool.eq_false_iff.mpr e)
      rw [decide_eq_false (show ¬ 1 ≤ z.length by omega)] at q
      walk_at "ss"
      refine iteT ?_
      refine iteT ?_
      walk_at "ss"
      exact q H (Same.refl H)
def spNum10 : Sp := fun vs H Q _ => ∃ (z : Str), vs = [.str z, .int 10] ∧ z.length ≤ 1000000 ∧ ∀ H', Same H H' → Q (.bl (numberW z)) H'
theorem k_is_numeral (T : Tx K mg) : C8.Cal P w K mg base 2 "is_numeral" spNum10 [] := by
  refine cal_of (N := n_is_numeral) T.d_is_numeral sc_is_numeral (fun _ _ F => F.bindsN fun _ _ _ _ _ _ us hl => match us, hl with | [_, _], _ => rfl) (fun vs H Q E h => ?_) (fun f cdv A outer s H vs Q E hr h => ?_)
  · obtain ⟨z, rfl, _⟩ := h
    rfl
  · obtain ⟨z, rfl, hz, q⟩ := h
    have hz2 : z.length ≤ sizeLine := Nat.le_of_lt (Nat.lt_of_le_of_lt hz (by decide))
    refine ⟨_, (pss_cons (ps_if (pt_not (pt_chain op_le op_le pe_int (pe_callB (call_len2 : CallR _ _ (rLn K)) (by rfl) T.z_len (by decide +kernel) (pa_cons (pv 0) pa_nil)) (pv 1))) (pss_one (ps_ret pe_bl)) pss_nil) (pss_cons (ps_if (pt_cmpR (op_eq2 hr.units : OpR _ _ (rEq2 K)) (pe_ix (ix_seq : IxR _ (rIx K)) (pv 0) pe_int (fun _ _ => rfl)) pe_str (nomark _)) (pss_one (ps_ret (pe_cmpR (op_eq2 hr.units : OpR _ _ (rEq2 K)) (pv 0) pe_str (nomark _)))) pss_nil) (pss_one (ps_ret (pe_cmpR (op_eq2 hr.units : OpR _ _ (rEq2 K)) (C8.pe_c (k_run_end T) hr (by first | decide | omega) (by rfl) (pa_cons (pv 0) (pa_cons pe_int (pa_cons (C8.pe_gc (by rfl) T.g_DIGITS) pa_nil)))) (pe_callB (call_len2 : CallR _ _ (rLn K)) (by rfl) T.z_len (by decide +kernel) (pa_cons (pv 0) pa_nil)) (nomark _)))))), ?_⟩
    unfold numberW at q
    walk_at "ss"
    refine b_lenS hz2 ?_
    walk_at "ss"
    refine ite2 (fun e => ?_) (fun e => ?_)
    · have e := of_decide_eq_true e
      rw [decide_eq_true (show 1 ≤ z.length by omega)] at q
      walk_at "ss"
      by_cases e2 : (z.length : Int) ≤ 10
      · rw [decide_eq_true e2]
        rw [decide_eq_true (show z.length ≤ 10 by omega)] at q
        refine iteF ?_
        walk_at "ss"
        obtain ⟨c, g1, g2⟩ := atI_cps (z := z) (i := 0) (by omega)
        refine o_ixS hz2 g2 ?_
        walk_at "ss"
        refine o_eqS rfl ?_
        walk_at "ss"
        refine ite2 (fun e => ?_) (fun e => ?_)
        · have ec : c = 48 := (sign_eq (y := ("0" : Str)) (by decide +kernel)).mp e
          subst ec
          walk_at "ss"
          refine o_eqS rfl ?_
          have e4 : decide (V.str z = V.str ("0" : Str)) = (decide (∀ c ∈ tl z, c ∈ tl DIG) && (decide (z.length = 1) || !decide ((tl z)[0]? = some 48))) := by
            by_cases h1 : z.length = 1
            · have ez : z = ("0" : Str) := str_ext (by
                rw [str_len] at h1
                obtain ⟨x, hx⟩ := List.length_eq_one_iff.mp h1
                rw [hx] at g1 ⊢
                have : x = 48 := by simpa using g1
                rw [this]
                decide +kernel)
              rw [ez]
              decide +kernel
            · rw [decide_eq_false (show ¬ V.str z = V.str ("0" : Str) from fun e => h1 (by rw [V.str.inj e]; decide +kernel)), decide_eq_false h1, g1]
              simp
          rw [e4]
          exact q H (Same.refl H)
        · have ec : ¬ c = 48 := fun z => e ((sign_eq (y := ("0" : Str)) (by decide +kernel)).mpr z)
          walk_at "ss"
          refine ⟨z, DIG, 0, rfl, hz, Nat.zero_le _, ?_⟩
          walk_at "ss"
          refine b_lenS hz2 ?_
          refine o_eqS rfl ?_
          walk_at "ss"
          have e4 : decide (V.int ((runEnd (tl z) (tl DIG) 0 : Nat) : Int) = V.int (z.length : Int)) = decide (∀ c ∈ tl z, c ∈ tl DIG) := by
            rw [decide_eq_decide, ← runEnd_all, ← str_len]
            exact ⟨fun e => by have := V.int.inj e; omega, fun e => by rw [e]⟩
          rw [e4]
          rw [g1, show decide (some c = some 48) = false from decide_eq_false (fun e => ec (Option.some.inj e))] at q
          simpa using q H (Same.refl H)
      · rw [decide_eq_false e2]
        rw [decide_eq_false (show ¬ z.length ≤ 10 by omega)] at q
        refine iteT ?_
        walk_at "ss"
        simpa using q H (Same.refl H)
    · have e := of_decide_eq_false (Bool.eq_false_iff.mpr e)
      rw [decide_eq_false (show ¬ 1 ≤ z.length by omega)] at q
      walk_at "ss"
      refine iteT ?_
      walk_at "ss"
      exact q H (Same.refl H)
theorem k_is_number (T : Tx K mg) : C8.Cal P w K mg base 3 "is_number" spNumW [] := by
  refine cal_of (N := n_is_number) T.d_is_number sc_is_number (fun _ _ F => F.bindsN fun _ _ _ _ _ _ us hl => match us, hl with | [_], _ => rfl) (fun vs H Q E h => ?_) (fun f cdv A outer s H vs Q E hr h => ?_)
  · obtain ⟨z, rfl, _⟩ := h
    rfl
  · obtain ⟨z, rfl, hz, q⟩ := h
    refine ⟨_, (pss_one (ps_ret (C8.pe_c (k_is_numeral T) hr (by first | decide | omega) (by rfl) (pa_cons (pv 0) (pa_cons (C8.pe_gc (by rfl) T.g_MOST_DIGITS) pa_nil))))), ?_⟩
    walk_at "ss"
    exact ⟨z, rfl, hz, q⟩
/-! ### the law's own -/
def spLetters : Sp := fun vs H Q _ => vs = [] ∧ Q (.str LET) H
theorem k_law_letters (T : Tx K mg) : C8.Cal P w K mg base 1 "_law_letters" spLetters [] := by
  refine cal_of (N := n_law_letters) T.d_law_letters sc_law_letters (fun _ _ F => F.bindsN fun _ _ _ _ _ _ us hl => match us, hl with | [], _ => rfl) (fun vs H Q E h => ?_) (fun f cdv A outer s H vs Q E hr h => ?_)
  · rw [h.1]
    rfl
  · obtain ⟨rfl, q⟩ := h
    refine ⟨_, (pss_one (ps_ret pe_str)), ?_⟩
    walk_at "ss"
    exact q
def spReserved : Sp := fun vs H Q _ => vs = [] ∧ ∀ p H', Same H H' → H p = none → H' p = some (.lst c_RESERVED) → Q (.ref p) H'
theorem k_law_reserved (T : Tx K mg) : C8.Cal P w K mg base 1 "_law_reserved" spReserved [] := by
  refine cal_of (N := n_law_reserved) T.d_law_reserved sc_law_reserved (fun _ _ F => F.bindsN fun _ _ _ _ _ _ us hl => match us, hl with | [], _ => rfl) (fun vs H Q E h => ?_) (fun f cdv A outer s H vs Q E hr h => ?_)
  · rw [h.1]
    rfl
  · obtain ⟨rfl, q⟩ := h
    refine ⟨_, (pss_cons (ps_asg (pe_lst (pa_cons pe_str (pa_cons pe_str (pa_cons pe_str (pa_cons pe_str (pa_cons pe_str (pa_cons pe_str (pa_cons pe_str (pa_cons pe_str (pa_cons pe_str (pa_cons pe_str (pa_cons pe_str (pa_cons pe_str (pa_cons pe_str (pa_cons pe_str pa_nil))))))))))))))) (pg_name (i := 0) sc_law_reserved.nd rfl (Or.inl rfl))) (pss_one (ps_ret (pe_op op_add3 (pv 0) (pe_lst (pa_cons pe_str (pa_cons pe_str (pa_cons pe_str (pa_cons pe_str (pa_cons pe_str (pa_cons pe_str (pa_cons pe_str (pa_cons pe_str (pa_cons pe_str (pa_cons pe_str (pa_cons pe_str (pa_cons pe_str (pa_cons pe_str pa_nil)))))))))))))))))), ?_⟩
    walk_at "ss"
    refine n_obj (by decide) fun p H1 np s1 e1 => ?_
    walk_at "ss"
    refine n_obj (by decide) fun p2 H2 np2 s2 e2 => ?_
    refine o_addL (s2 _ _ e1) e2 (by decide) fun p3 H3 np3 s3 e3 => ?_
    exact q p3 H3 ((s1.trans s2).trans s3) ((s1.trans s2).free np3) e3
theorem k_law_is_name (T : Tx K mg) : C8.Cal P w K mg base 2 "_law_is_name" spNameW [] := by
  refine cal_of (N := n_law_is_name) T.d_law_is_name sc_law_is_name (fun _ _ F => F.bindsN fun _ _ _ _ _ _ us hl => match us, hl with | [_], _ => rfl) (fun vs H Q E h => ?_) (fun f cdv A outer s H vs Q E hr h => ?_)
  · obtain ⟨z, rfl, _⟩ := h
    rfl
  · obtain ⟨z, rfl, hz, q⟩ := h
    have hz2 : z.length ≤ sizeLine := Nat.le_of_lt (Nat.lt_of_le_of_lt hz (by decide))
    refine ⟨_, (pss_cons (ps_if (PW.pt (pw_or (pt_cmpR op_lt (pe_callB (call_len2 : CallR _ _ (rLn K)) (by rfl) T.z_len (by decide +kernel) (pa_cons (pv 0) pa_nil)) pe_int (nomark _)) (pw_or (pt_cmpR op_gt (pe_callB (call_len2 : CallR _ _ (rLn K)) (by rfl) T.z_len (by decide +kernel) (pa_cons (pv 0) pa_nil)) pe_int (nomark _)) (pw_or1 (pt_cmpR (op_in2 : OpR _ _ (rIn2 K)) (pv 0) (pe_c0 (k_law_reserved T) hr (by first | decide | omega) (by rfl)) (by rfl)))))) (pss_one (ps_ret pe_bl)) pss_nil) (pss_cons (ps_for PassesOwn.never rfl (pi_str (pv 0)) (pg_name (i := 1) sc_law_is_name.nd rfl (Or.inl rfl)) (pss_one (ps_if (pt_cmpR (op_ni2 : OpR _ _ (rNi2 K)) (pv 1) (pe_c0 (k_law_letters T) hr (by first | decide | omega) (by rfl)) (by rfl)) (pss_one (ps_ret pe_bl)) pss_nil))) (pss_one (ps_ret pe_bl)))), ?_⟩
    unfold nameW at q
    walk_at "ss"
    refine b_lenS hz2 ?_
    walk_at "ss"
    refine ite2 (fun e => ?_) (fun e => ?_)
    · have e := of_decide_eq_true e
      rw [decide_eq_false (show ¬ 1 ≤ z.length by omega)] at q
      refine iteT ?_
      walk_at "ss"
      exact q H (Same.refl H)
    · have e := of_decide_eq_false (Bool.eq_false_iff.mpr e)
      rw [decide_eq_true (show 1 ≤ z.length by omega)] at q
      walk_at "ss"
      refine b_lenS hz2 ?_
      walk_at "ss"
      refine ite2 (fun e => ?_) (fun e => ?_)
      · have e := of_decide_eq_true e
        rw [decide_eq_false (show ¬ z.length ≤ 12 by omega)] at q
        refine iteT ?_
        walk_at "ss"
        exact q H (Same.refl H)
      · have e := of_decide_eq_false (Bool.eq_false_iff.mpr e)
        rw [decide_eq_true (show z.length ≤ 12 by omega)] at q
        walk_at "ss"
        refine ⟨rfl, fun p H1 s1 np e1 => ?_⟩
        refine o_inL (lst_of e1) rfl (by decide +kernel) ?_
        walk_at "ss"
        cases e3 : inV (.str z) c_RESERVED with
        | true =>
          rw [e3] at q
          refine iteT ?_
          walk_at "ss"
          exact q H1 s1
        | false =>
          rw [e3] at q
          refine iteF ?_
          walk_at "ss"
          refine f_str (fun i σ H' => H' = H1 ∧ (∃ x, σ = [some (.str z), x]) ∧ ∀ c ∈ (tl z).take i, c ∈ tl LET) ⟨rfl, ⟨_, rfl⟩, by simp⟩ (fun i k σ H' g p => ?_) (fun σ H' p => ?_)
          · obtain ⟨rfl, ⟨x, rfl⟩, h3⟩ := p
            walk_at "ss"
            refine ⟨rfl, ?_⟩
            walk_at "ss"
            refine ite2 (fun e => ?_) (fun e => ?_)
            · have e := of_decide_eq_false (Bool.not_eq_true' _ ▸ e)
              walk_at "ss"
              rw [show decide (∀ c ∈ tl z, c ∈ tl LET) = false from decide_eq_false fun h => e (h k (List.mem_of_getElem? g))] at q
              exact q H' s1
            · have e : k ∈ tl LET := by simpa using e
              walk_at "ss"
              refine ⟨rfl, ⟨_, rfl⟩, fun c hc => ?_⟩
              rw [List.take_add_one, g] at hc
              rcases List.mem_append.mp hc with hc | hc
              · exact h3 c hc
              · rw [show c = k by simpa using hc]
                exact e
          · obtain ⟨rfl, ⟨x, rfl⟩, h3⟩ := p
            walk_at "ss"
            rw [List.take_length] at h3
            rw [show decide (∀ c ∈ tl z, c ∈ tl LET) = true from decide_eq_true h3] at q
            exact q H' s1
theorem k_law_is_number (T : Tx K mg) : C8.Cal P w K mg base 1 "_law_is_number" spNumW [] := by
  refine cal_of (N := n_law_is_number) T.d_law_is_number sc_law_is_number (fun _ _ F => F.bindsN fun _ _ _ _ _ _ us hl => match us, hl with | [_], _ => rfl) (fun vs H Q E h => ?_) (fun f cdv A outer s H vs Q E hr h => ?_)
  · obtain ⟨z, rfl, _⟩ := h
    rfl
  · obtain ⟨z, rfl, hz, q⟩ := h
    have hz2 : z.length ≤ sizeLine := Nat.le_of_lt (Nat.lt_of_le_of_lt hz (by decide))
    refine ⟨_, (pss_cons (ps_if (PW.pt (pw_or (pt_cmpR op_lt (pe_callB (call_len2 : CallR _ _ (rLn K)) (by rfl) T.z_len (by decide +kernel) (pa_cons (pv 0) pa_nil)) pe_int (nomark _)) (pw_or (pt_cmpR op_gt (pe_callB (call_len2 : CallR _ _ (rLn K)) (by rfl) T.z_len (by decide +kernel) (pa_cons (pv 0) pa_nil)) pe_int (nomark _)) (pw_or1 (PW.pt (pw_and (pt_cmpR op_gt (pe_callB (call_len2 : CallR _ _ (rLn K)) (by rfl) T.z_len (by decide +kernel) (pa_cons (pv 0) pa_nil)) pe_int (nomark _)) (pw_and1 (pt_cmpR (op_eq2 hr.units : OpR _ _ (rEq2 K)) (pe_ix (ix_seq : IxR _ (rIx K)) (pv 0) pe_int (fun _ _ => rfl)) pe_str (nomark _))))))))) (pss_one (ps_ret pe_bl)) pss_nil) (pss_cons (ps_for PassesOwn.never rfl (pi_str (pv 0)) (pg_name (i := 1) sc_law_is_number.nd rfl (Or.inl rfl)) (pss_one (ps_if (pt_cmpR (op_ni2 : OpR _ _ (rNi2 K)) (pv 1) pe_str (by rfl)) (pss_one (ps_ret pe_bl)) pss_nil))) (pss_one (ps_ret pe_bl)))), ?_⟩
    unfold numberW at q
    walk_at "ss"
    refine b_lenS hz2 ?_
    walk_at "ss"
    refine ite2 (fun e => ?_) (fun e => ?_)
    · have e := of_decide_eq_true e
      rw [decide_eq_false (show ¬ 1 ≤ z.length by omega)] at q
      refine iteT ?_
      walk_at "ss"
      simpa using q H (Same.refl H)
    · have e := of_decide_eq_false (Bool.eq_false_iff.mpr e)
      rw [decide_eq_true (show 1 ≤ z.length by omega)] at q
      obtain ⟨c, g1, g2⟩ := atI_cps (z := z) (i := 0) (by omega)
      rw [g1] at q
      walk_at "ss"
      refine b_lenS hz2 ?_
      walk_at "ss"
      refine ite2 (fun e => ?_) (fun e => ?_)
      · have e := of_decide_eq_true e
        rw [decide_eq_false (show ¬ z.length ≤ 10 by omega)] at q
        refine iteT ?_
        walk_at "ss"
        simpa using q H (Same.refl H)
      · have e := of_decide_eq_false (Bool.eq_false_iff.mpr e)
        rw [decide_eq_true (show z.length ≤ 10 by omega)] at q
        walk_at "ss"
        refine b_lenS hz2 ?_
        walk_at "ss"
        refine ite2 (fun e => ?_) (fun e => ?_)
        · have e := of_decide_eq_true e
          walk_at "ss"
          refine o_ixS hz2 g2 ?_
          walk_at "ss"
          refine o_eqS rfl ?_
          walk_at "ss"
          refine ite2 (fun e => ?_) (fun e => ?_)
          · have ec : c = 48 := (sign_eq (y := ("0" : Str)) (by decide +kernel)).mp e
            rw [decide_eq_false (show ¬ z.length = 1 by omega), decide_eq_true (show some c = some 48 by rw [ec])] at q
            walk_at "ss"
            simpa using q H (Same.refl H)
          · have ec : ¬ c = 48 := fun z => e ((sign_eq (y := ("0" : Str)) (by decide +kernel)).mpr z)
            have last : (decide (z.length = 1) || !decide (some c = some 48)) = true := by
              rw [decide_eq_false (fun e => ec (Option.some.inj e))]
              simp
            walk_at "ss"
            refine f_str (fun i σ H' => H' = H ∧ (∃ x, σ = [some (.str z), x]) ∧ ∀ c ∈ (tl z).take i, c ∈ tl DIG) ⟨rfl, ⟨_, rfl⟩, by simp⟩ (fun i k σ H' g p => ?_) (fun σ H' p => ?_)
            · obtain ⟨rfl, ⟨x, rfl⟩, h3⟩ := p
              walk_at "ss"
              refine ite2 (fun e => ?_) (fun e => ?_)
              · have e := of_decide_eq_false (Bool.not_eq_true' _ ▸ e)
                walk_at "ss"
                rw [show decide (∀ c ∈ tl z, c ∈ tl DIG) = false from decide_eq_false fun h => e (h k (List.mem_of_getElem? g))] at q
                exact q H' (Same.refl H')
              · have e : k ∈ tl DIG := by simpa using e
                walk_at "ss"
                refine ⟨rfl, ⟨_, rfl⟩, fun c hc => ?_⟩
                rw [List.take_add_one, g] at hc
                rcases List.mem_append.mp hc with hc | hc
                · exact h3 c hc
                · rw [show c = k by simpa using hc]
                  exact e
            · obtain ⟨rfl, ⟨x, rfl⟩, h3⟩ := p
              walk_at "ss"
              rw [List.take_length] at h3
              rw [show decide (∀ c ∈ tl z, c ∈ tl DIG) = true from decide_eq_true h3, last] at q
              exact q H' (Same.refl H')
        · have e := of_decide_eq_false (Bool.eq_false_iff.mpr e)
          have last : (decide (z.length = 1) || !decide (some c = some 48)) = true := by
            rw [decide_eq_true (show z.length = 1 by omega)]
            rfl
          refine iteF ?_
          walk_at "ss"
          refine f_str (fun i σ H' => H' = H ∧ (∃ x, σ = [some (.str z), x]) ∧ ∀ c ∈ (tl z).take i, c ∈ tl DIG) ⟨rfl, ⟨_, rfl⟩, by simp⟩ (fun i k σ H' g p => ?_) (fun σ H' p => ?_)
          · obtain ⟨rfl, ⟨x, rfl⟩, h3⟩ := p
            walk_at "ss"
            refine ite2 (fun e => ?_) (fun e => ?_)
            · have e := of_decide_eq_false (Bool.not_eq_true' _ ▸ e)
              walk_at "ss"
              rw [show decide (∀ c ∈ tl z, c ∈ tl DIG) = false from decide_eq_false fun h => e (h k (List.mem_of_getElem? g))] at q
              exact q H' (Same.refl H')
            · have e : k ∈ tl DIG := by simpa using e
              walk_at "ss"
              refine ⟨rfl, ⟨_, rfl⟩, fun c hc => ?_⟩
              rw [List.take_add_one, g] at hc
              rcases List.mem_append.mp hc with hc | hc
              · exact h3 c hc
              · rw [show c = k by simpa using hc]
                exact e
          · obtain ⟨rfl, ⟨x, rfl⟩, h3⟩ := p
            walk_at "ss"
            rw [List.take_length] at h3
            rw [show decide (∀ c ∈ tl z, c ∈ tl DIG) = true from decide_eq_true h3, last] at q
            exact q H' (Same.refl H')
end
end K02
namespace K02
open PySem PySem.Spec PyProof.Rows L2 Wy WM W3

/-- a def that reads words from a place on -/
def spWs (f : List Str → Nat → PyData) : Sp := fun vs H Q _ => ∃ (p : Addr) (ws : List Str) (i : Nat), vs = [.ref p, .int i] ∧ H p = some (.lst ((ws : List Str).map V.str)) ∧ SmallW ws ∧ ∀ v H', Same H H' → Tp H' v (f ws i) → Q v H'
theorem spWs_len {f : List Str → Nat → PyData} (vs : List V) (H : Hp) (Q : VK) (E : XK) (h : spWs f vs H Q E) : vs.length = 2 := by
  obtain ⟨p, ws, i, rfl, _⟩ := h
  rfl
theorem strs_at {ws : List Str} {i : Nat} (h : i < ws.length) : atI (ws.map V.str) (i : Int) = some (.str (wordAt ws i)) := by
  refine atI_nat ?_
  rw [List.getElem?_map, List.getElem?_eq_getElem h, wordAt_in h]
  rfl
section
variable {P : Program} {w : World} {K : PySem.W.Frag} {mg : Str → Option Value} {base : Heap}
theorem k_word_at (T : Tx K mg) : C8.Cal P w K mg base 1 "word_at" (spWs fun ws i => .str (wordAt ws i)) [] := by
  refine cal_of (N := n_word_at) T.d_word_at sc_word_at (fun _ _ F => F.bindsN fun _ _ _ _ _ _ us hl => match us, hl with | [_, _], _ => rfl) spWs_len (fun f cdv A outer s H vs Q E hr h => ?_)
  obtain ⟨p, ws, i, rfl, e, sm, q⟩ := h
  dsimp only at q
  refine ⟨_, (pss_one (ps_ret (pe_ifExp (pt_cmpR op_lt (pv 1) (pe_callB (call_len2 : CallR _ _ (rLn K)) (by rfl) T.z_len (by decide +kernel) (pa_cons (pv 0) pa_nil)) (nomark _)) (pe_ix (ix_seq : IxR _ (rIx K)) (pv 0) (pv 1) (fun _ _ => rfl)) pe_str))), ?_⟩
  walk_at "ss"
  refine b_lenL (lst_of e) ?_
  walk_at "ss"
  rw [List.length_map]
  refine ite2 (fun e1 => ?_) (fun e1 => ?_)
  · have e1 := of_decide_eq_true e1
    walk_at "ss"
    refine o_ixL (lst_of e) (strs_at (by omega)) ?_
    exact q _ H (Same.refl H) (.str _)
  · have e1 := of_decide_eq_false (Bool.eq_false_iff.mpr e1)
    walk_at "ss"
    refine q _ H (Same.refl H) ?_
    rw [wordAt_out (by omega)]
    exact .str _
/-- a new pair -/
theorem pair_tp {H : Hp} {p : Addr} {x y : V} {d e : PyData} (h : H p = some (.tup [x, y])) (h1 : Tp H x d) (h2 : Tp H y e) : Tp H (.ref p) (.tuple [d, e]) := .tup h (.cons h1 (.cons h2 .nil))
theorem k_take_signed (T : Tx K mg) : C8.Cal P w K mg base 4 "_take_signed" (spWs fun ws i => iD (takeSigned ws i)) [] := by
  refine cal_of (N := n_take_signed) T.d_take_signed sc_take_signed (fun _ _ F => F.bindsN fun _ _ _ _ _ _ us hl => match us, hl with | [_, _], _ => rfl) spWs_len (fun f cdv A outer s H vs Q E hr h => ?_)
  obtain ⟨p, ws, i, rfl, e, sm, q⟩ := h
  dsimp only at q
  refine ⟨_, (pss_cons (ps_if (pt_tr (C8.pe_c (k_is_number T) hr (by first | decide | omega) (by rfl) (pa_cons (C8.pe_c (k_word_at T) hr (by first | decide | omega) (by rfl) (pa_cons (pv 0) (pa_cons (pv 1) pa_nil))) pa_nil)) : PT _ _ (tTr K _)) (pss_one (ps_ret (pe_tup (pa_cons (pe_callTy call_int2 (by rfl) T.z_int (by decide +kernel) (pa_cons (pe_ix (ix_seq : IxR _ (rIx K)) (pv 0) (pv 1) (fun _ _ => rfl)) pa_nil)) (pa_cons (pe_op op_add3 (pv 1) pe_int) pa_nil))))) pss_nil) (pss_cons (ps_if (PW.pt (pw_and (pt_cmpR (op_eq2 hr.units : OpR _ _ (rEq2 K)) (C8.pe_c (k_word_at T) hr (by first | decide | omega) (by rfl) (pa_cons (pv 0) (pa_cons (pv 1) pa_nil))) pe_str (nomark _)) (pw_and1 (pt_tr (C8.pe_c (k_is_number T) hr (by first | decide | omega) (by rfl) (pa_cons (C8.pe_c (k_word_at T) hr (by first | decide | omega) (by rfl) (pa_cons (pv 0) (pa_cons (pe_op op_add3 (pv 1) pe_int) pa_nil))) pa_nil)) : PT _ _ (tTr K _))))) (pss_one (ps_ret (pe_tup (pa_cons (pe_un un_neg (pe_callTy call_int2 (by rfl) T.z_int (by decide +kernel) (pa_cons (pe_ix (ix_seq : IxR _ (rIx K)) (pv 0) (pe_op op_add3 (pv 1) pe_int) (fun _ _ => rfl)) pa_nil))) (pa_cons (pe_op op_add3 (pv 1) pe_int) pa_nil))))) pss_nil) (pss_one (ps_ret pe_non)))), ?_⟩
  unfold takeSigned at q
  walk_at "ss"
  refine ⟨p, ws, i, rfl, e, sm, fun v H1 s1 t1 => ?_⟩
  cases t1
  walk_at "ss"
  refine ⟨_, rfl, sm.at6 _, fun H2 s2 => ?_⟩
  walk_at "ss"
  refine ite2 (fun e1 => ?_) (fun e1 => ?_)
  · rw [if_pos e1] at q
    have hlt := number_lt e1
    have e2 := s2 _ _ (s1 _ _ e)
    walk_at "ss"
    refine o_ixL (lst_of e2) (strs_at hlt) ?_
    walk_at "ss"
    refine b_intS (number_int e1).1 (number_int e1).2 ?_
    walk_at "ss"
    refine n_obj (lz (by simp)) fun p3 H3 n3 s3 e3 => ?_
    exact q _ H3 ((s1.trans s2).trans s3) (pair_tp e3 (.int _) (.int _))
  · rw [if_neg e1] at q
    walk_at "ss"
    refine ⟨p, ws, i, rfl, s2 _ _ (s1 _ _ e), sm, fun v H3 s3 t3 => ?_⟩
    cases t3
    walk_at "ss"
    refine o_eqS rfl ?_
    walk_at "ss"
    refine ite2 (fun e2 => ?_) (fun e2 => ?_)
    · have e2 : wordAt ws i = "-" := V.str.inj (of_decide_eq_true e2)
      walk_at "ss"
      refine ⟨p, ws, i + 1, rfl, s3 _ _ (s2 _ _ (s1 _ _ e)), sm, fun v H4 s4 t4 => ?_⟩
      cases t4
      walk_at "ss"
      refine ⟨_, rfl, sm.at6 _, fun H5 s5 => ?_⟩
      walk_at "ss"
      refine ite2 (fun e3 => ?_) (fun e3 => ?_)
      · rw [if_pos ⟨e2, e3⟩] at q
        have hlt := number_lt e3
        have e6 := s5 _ _ (s4 _ _ (s3 _ _ (s2 _ _ (s1 _ _ e))))
        walk_at "ss"
        refine o_ixL (lst_of e6) (strs_at (i := i + 1) hlt) ?_
        walk_at "ss"
        refine b_intS (number_int e3).1 (number_int e3).2 ?_
        walk_at "ss"
        refine n_obj (lz (by simp)) fun p7 H7 n7 s7 e7 => ?_
        exact q _ H7 (((((s1.trans s2).trans s3).trans s4).trans s5).trans s7) (pair_tp e7 (.int _) (.int _))
      · rw [if_neg (fun h => e3 h.2)] at q
        walk_at "ss"
        exact q _ H5 ((((s1.trans s2).trans s3).trans s4).trans s5) .non
    · rw [if_neg (fun h => e2 (decide_eq_true (congrArg V.str h.1)))] at q
      walk_at "ss"
      refine iteF ?_
      walk_at "ss"
      exact q _ H3 ((s1.trans s2).trans s3) .non
theorem k_take_plus (T : Tx K mg) : C8.Cal P w K mg base 4 "_take_plus" (spWs fun ws i => iD (takePlus ws i)) [] := by
  refine cal_of (N := n_take_plus) T.d_take_plus sc_take_plus (fun _ _ F => F.bindsN fun _ _ _ _ _ _ us hl => match us, hl with | [_, _], _ => rfl) spWs_len (fun f cdv A outer s H vs Q E hr h => ?_)
  obtain ⟨p, ws, i, rfl, e, sm, q⟩ := h
  dsimp only at q
  refine ⟨_, (pss_cons (ps_asg (C8.pe_c (k_word_at T) hr (by first | decide | omega) (by rfl) (pa_cons (pv 0) (pa_cons (pv 1) pa_nil))) (pg_name (i := 2) sc_take_plus.nd rfl (Or.inl rfl))) (pss_cons (ps_if (pt_cmpR (op_ni2 : OpR _ _ (rNi2 K)) (pv 2) (pe_tup (pa_cons pe_str (pa_cons pe_str pa_nil))) (by rfl)) (pss_one (ps_ret (pe_tup (pa_cons pe_int (pa_cons (pv 1) pa_nil))))) pss_nil) (pss_cons (ps_if (pt_not (pt_tr (C8.pe_c (k_is_number T) hr (by first | decide | omega) (by rfl) (pa_cons (C8.pe_c (k_word_at T) hr (by first | decide | omega) (by rfl) (pa_cons (pv 0) (pa_cons (pe_op op_add3 (pv 1) pe_int) pa_nil))) pa_nil)) : PT _ _ (tTr K _))) (pss_one (ps_ret pe_non)) pss_nil) (pss_cons (ps_asg (pe_callTy call_int2 (by rfl) T.z_int (by decide +kernel) (pa_cons (pe_ix (ix_seq : IxR _ (rIx K)) (pv 0) (pe_op op_add3 (pv 1) pe_int) (fun _ _ => rfl)) pa_nil)) (pg_name (i := 3) sc_take_plus.nd rfl (Or.inl rfl))) (pss_one (ps_ret (pe_tup (pa_cons (pe_ifExp (pt_cmpR (op_eq2 hr.units : OpR _ _ (rEq2 K)) (pv 2) pe_str (nomark _)) (pv 3) (pe_un un_neg (pv 3))) (pa_cons (pe_op op_add3 (pv 1) pe_int) pa_nil))))))))), ?_⟩
  unfold takePlus at q
  walk_at "ss"
  refine ⟨p, ws, i, rfl, e, sm, fun v H1 s1 t1 => ?_⟩
  cases t1
  walk_at "ss"
  refine n_obj (lz (by simp)) fun p2 H2 n2 s2 e2 => ?_
  refine o_niT (tup_of e2) rfl (by decide +kernel) ?_
  walk_at "ss"
  have hin : inV (.str (wordAt ws i)) [.str "+", .str "-"] = decide (wordAt ws i = "+" ∨ wordAt ws i = "-") := by
    show ((("+" : Str) == wordAt ws i) || ((("-" : Str) == wordAt ws i) || false)) = _
    rw [Bool.or_false, Bool.eq_iff_iff, Bool.or_eq_true, beq_iff_eq, beq_iff_eq, decide_eq_true_iff]
    exact ⟨fun h => h.imp Eq.symm Eq.symm, fun h => h.imp Eq.symm Eq.symm⟩
  by_cases hs : wordAt ws i = "+" ∨ wordAt ws i = "-"
  · rw [hin, decide_eq_true hs]
    rw [if_pos hs] at q
    refine iteF ?_
    walk_at "ss"
    refine ⟨p, ws, i + 1, rfl, s2 _ _ (s1 _ _ e), sm, fun v H3 s3 t3 => ?_⟩
    cases t3
    walk_at "ss"
    refine ⟨_, rfl, sm.at6 _, fun H4 s4 => ?_⟩
    walk_at "ss"
    cases e3 : numberW (wordAt ws (i + 1)) with
    | false =>
      rw [e3] at q
      refine iteT ?_
      walk_at "ss"
      exact q _ H4 (((s1.trans s2).trans s3).trans s4) .non
    | true =>
      rw [e3, if_pos rfl] at q
      refine iteF ?_
      have hlt := number_lt e3
      have e5 := s4 _ _ (s3 _ _ (s2 _ _ (s1 _ _ e)))
      walk_at "ss"
      refine o_ixL (lst_of e5) (strs_at (i := i + 1) hlt) ?_
      walk_at "ss"
      refine b_intS (number_int e3).1 (number_int e3).2 ?_
      walk_at "ss"
      refine o_eqS rfl ?_
      walk_at "ss"
      refine ite2 (fun e4 => ?_) (fun e4 => ?_)
      · have e4 : wordAt ws i = "+" := V.str.inj (of_decide_eq_true e4)
        rw [if_pos e4] at q
        walk_at "ss"
        refine n_obj (lz (by simp)) fun p7 H7 n7 s7 e7 => ?_
        exact q _ H7 ((((s1.trans s2).trans s3).trans s4).trans s7) (pair_tp e7 (.int _) (.int _))
      · rw [if_neg (fun h => e4 (decide_eq_true (congrArg V.str h)))] at q
        walk_at "ss"
        refine n_obj (lz (by simp)) fun p7 H7 n7 s7 e7 => ?_
        exact q _ H7 ((((s1.trans s2).trans s3).trans s4).trans s7) (pair_tp e7 (.int _) (.int _))
  · rw [hin, decide_eq_false hs]
    rw [if_neg hs] at q
    refine iteT ?_
    walk_at "ss"
    refine n_obj (lz (by simp)) fun p7 H7 n7 s7 e7 => ?_
    exact q _ H7 ((s1.trans s2).trans s7) (pair_tp e7 (.int _) (.int _))
/-- what a pair or None holds -/
theorem tp_none {H : Hp} {v : V} (h : Tp H v .none) : v = .non := by
  cases h
  rfl
theorem tp_pair {H : Hp} {v : V} {d e : PyData} (h : Tp H v (.tuple [d, e])) : ∃ a x y, v = .ref a ∧ H a = some (.tup [x, y]) ∧ Tp H x d ∧ Tp H y e := by
  cases h with
  | tup e1 r =>
    cases r with
    | cons h1 r =>
      cases r with
      | cons h2 r =>
        cases r
        exact ⟨_, _, _, rfl, e1, h1, h2⟩
theorem tp_int {H : Hp} {v : V} {i : Int} (h : Tp H v (.int i)) : v = .int i := by
  cases h
  rfl
theorem tp_str {H : Hp} {v : V} {z : Str} (h : Tp H v (.str z)) : v = .str z := by
  cases h
  rfl
theorem k_take_plain (T : Tx K mg) : C8.Cal P w K mg base 5 "_take_plain" (spWs fun ws i => eD (takePlain ws i)) [] := by
  refine cal_of (N := n_take_plain) T.d_take_plain sc_take_plain (fun _ _ F => F.bindsN fun _ _ _ _ _ _ us hl => match us, hl with | [_, _], _ => rfl) spWs_len (fun f cdv A outer s H vs Q E hr h => ?_)
  obtain ⟨p, ws, i, rfl, e, sm, q⟩ := h
  dsimp only at q
  refine ⟨_, (pss_cons (ps_if (pt_not (pt_tr (C8.pe_c (k_is_name T) hr (by first | decide | omega) (by rfl) (pa_cons (C8.pe_c (k_word_at T) hr (by first | decide | omega) (by rfl) (pa_cons (pv 0) (pa_cons (pv 1) pa_nil))) pa_nil)) : PT _ _ (tTr K _))) (pss_cons (ps_asg (C8.pe_c (k_take_signed T) hr (by first | decide | omega) (by rfl) (pa_cons (pv 0) (pa_cons (pv 1) pa_nil))) (pg_name (i := 2) sc_take_plain.nd rfl (Or.inl rfl))) (pss_one (ps_ret (pe_ifExp (pt_cmpR op_isN2 (pv 2) pe_non (nomark _)) pe_non (pe_tup (pa_cons (pe_tup (pa_cons pe_str (pa_cons (pe_ix (ix_seq : IxR _ (rIx K)) (pv 2) pe_int (fun _ _ => rfl)) pa_nil))) (pa_cons (pe_ix (ix_seq : IxR _ (rIx K)) (pv 2) pe_int (fun _ _ => rfl)) pa_nil))))))) pss_nil) (pss_cons (ps_asg (C8.pe_c (k_take_plus T) hr (by first | decide | omega) (by rfl) (pa_cons (pv 0) (pa_cons (pe_op op_add3 (pv 1) pe_int) pa_nil))) (pg_name (i := 3) sc_take_plain.nd rfl (Or.inl rfl))) (pss_one (ps_ret (pe_ifExp (pt_cmpR op_isN2 (pv 3) pe_non (nomark _)) pe_non (pe_tup (pa_cons (pe_tup (pa_cons pe_str (pa_cons (pe_ix (ix_seq : IxR _ (rIx K)) (pv 0) (pv 1) (fun _ _ => rfl)) (pa_cons (pe_ix (ix_seq : IxR _ (rIx K)) (pv 3) pe_int (fun _ _ => rfl)) pa_nil)))) (pa_cons (pe_ix (ix_seq : IxR _ (rIx K)) (pv 3) pe_int (fun _ _ => rfl)) pa_nil)))))))), ?_⟩
  unfold takePlain at q
  walk_at "ss"
  refine ⟨p, ws, i, rfl, e, sm, fun v H1 s1 t1 => ?_⟩
  cases t1
  walk_at "ss"
  refine ⟨_, rfl, sm.at6 _, fun H2 s2 => ?_⟩
  have e2 := s2 _ _ (s1 _ _ e)
  walk_at "ss"
  cases hn : nameW (wordAt ws i) with
  | false =>
    rw [hn, if_neg Bool.false_ne_true] at q
    refine iteT ?_
    walk_at "ss"
    refine ⟨p, ws, i, rfl, e2, sm, fun v H3 s3 t3 => ?_⟩
    dsimp only at t3
    have s03 := (s1.trans s2).trans s3
    cases ht : takeSigned ws i with
    | none =>
      rw [ht] at t3 q
      obtain rfl := tp_none t3
      walk_at "ss"
      refine iteT ?_
      walk_at "ss"
      exact q _ H3 s03 .non
    | some r =>
      obtain ⟨n, j⟩ := r
      rw [ht] at t3 q
      obtain ⟨a, x, y, rfl, ea, tx, ty⟩ := tp_pair t3
      obtain rfl := tp_int tx
      obtain rfl := tp_int ty
      walk_at "ss"
      refine iteF ?_
      walk_at "ss"
      refine o_ixT (tup_of ea) (atI_nat (j := 0) rfl) ?_
      walk_at "ss"
      refine n_obj (lz (by simp)) fun p4 H4 n4 s4 e4 => ?_
      walk_at "ss"
      refine o_ixT (tup_of (s4 _ _ ea)) (atI_nat (j := 1) rfl) ?_
      walk_at "ss"
      refine n_obj (lz (by simp)) fun p5 H5 n5 s5 e5 => ?_
      exact q _ H5 ((s03.trans s4).trans s5) (pair_tp e5 (pair_tp (s5 _ _ e4) (.str _) (.int _)) (.int _))
  | true =>
    rw [hn, if_pos rfl] at q
    refine iteF ?_
    walk_at "ss"
    refine ⟨p, ws, i + 1, rfl, e2, sm, fun v H3 s3 t3 => ?_⟩
    dsimp only at t3
    have s03 := (s1.trans s2).trans s3
    cases ht : takePlus ws (i + 1) with
    | none =>
      rw [ht] at t3 q
      obtain rfl := tp_none t3
      walk_at "ss"
      refine iteT ?_
      walk_at "ss"
      exact q _ H3 s03 .non
    | some r =>
      obtain ⟨n, j⟩ := r
      rw [ht] at t3 q
      obtain ⟨a, x, y, rfl, ea, tx, ty⟩ := tp_pair t3
      obtain rfl := tp_int tx
      obtain rfl := tp_int ty
      walk_at "ss"
      refine iteF ?_
      walk_at "ss"
      refine o_ixL (lst_of (s3 _ _ e2)) (strs_at (name_lt hn)) ?_
      walk_at "ss"
      refine o_ixT (tup_of ea) (atI_nat (j := 0) rfl) ?_
      walk_at "ss"
      refine n_obj (lz (by simp)) fun p4 H4 n4 s4 e4 => ?_
      walk_at "ss"
      refine o_ixT (tup_of (s4 _ _ ea)) (atI_nat (j := 1) rfl) ?_
      walk_at "ss"
      refine n_obj (lz (by simp)) fun p5 H5 n5 s5 e5 => ?_
      exact q _ H5 ((s03.trans s4).trans s5) (pair_tp e5 (.tup (s5 _ _ e4) (.cons (.str _) (.cons (.str _) (.cons (.int _) .nil)))) (.int _))
theorem k_take_expression (T : Tx K mg) : C8.Cal P w K mg base 6 "_take_expression" (spWs fun ws i => eD (takeExpr ws i)) [] := by
  refine cal_of (N := n_take_expression) T.d_take_expression sc_take_expression (fun _ _ F => F.bindsN fun _ _ _ _ _ _ us hl => match us, hl with | [_, _], _ => rfl) spWs_len (fun f cdv A outer s H vs Q E hr h => ?_)
  obtain ⟨p, ws, i, rfl, e, sm, q⟩ := h
  dsimp only at q
  refine ⟨_, (pss_cons (ps_if (PW.pt (pw_or (pt_not (pt_tr (C8.pe_c (k_is_name T) hr (by first | decide | omega) (by rfl) (pa_cons (C8.pe_c (k_word_at T) hr (by first | decide | omega) (by rfl) (pa_cons (pv 0) (pa_cons (pv 1) pa_nil))) pa_nil)) : PT _ _ (tTr K _))) (pw_or1 (pt_cmpR (op_ne2 hr.units : OpR _ _ (rNe2 K)) (C8.pe_c (k_word_at T) hr (by first | decide | omega) (by rfl) (pa_cons (pv 0) (pa_cons (pe_op op_add3 (pv 1) pe_int) pa_nil))) pe_str (nomark _))))) (pss_one (ps_ret (C8.pe_c (k_take_plain T) hr (by first | decide | omega) (by rfl) (pa_cons (pv 0) (pa_cons (pv 1) pa_nil))))) pss_nil) (pss_cons (ps_asg (C8.pe_c (k_take_plain T) hr (by first | decide | omega) (by rfl) (pa_cons (pv 0) (pa_cons (pe_op op_add3 (pv 1) pe_int) pa_nil))) (pg_name (i := 2) sc_take_expression.nd rfl (Or.inl rfl))) (pss_cons (ps_if (PW.pt (pw_or (pt_cmpR op_isN2 (pv 2) pe_non (nomark _)) (pw_or1 (pt_cmpR (op_ne2 hr.units : OpR _ _ (rNe2 K)) (C8.pe_c (k_word_at T) hr (by first | decide | omega) (by rfl) (pa_cons (pv 0) (pa_cons (pe_ix (ix_seq : IxR _ (rIx K)) (pv 2) pe_int (fun _ _ => rfl)) pa_nil))) pe_str (nomark _))))) (pss_one (ps_ret pe_non)) pss_nil) (pss_cons (ps_asg (C8.pe_c (k_take_plus T) hr (by first | decide | omega) (by rfl) (pa_cons (pv 0) (pa_cons (pe_op op_add3 (pe_ix (ix_seq : IxR _ (rIx K)) (pv 2) pe_int (fun _ _ => rfl)) pe_int) pa_nil))) (pg_name (i := 3) sc_take_expression.nd rfl (Or.inl rfl))) (pss_one (ps_ret (pe_ifExp (pt_cmpR op_isN2 (pv 3) pe_non (nomark _)) pe_non (pe_tup (pa_cons (pe_tup (pa_cons pe_str (pa_cons (pe_ix (ix_seq : IxR _ (rIx K)) (pv 0) (pv 1) (fun _ _ => rfl)) (pa_cons (pe_ix (ix_seq : IxR _ (rIx K)) (pv 2) pe_int (fun _ _ => rfl)) (pa_cons (pe_ix (ix_seq : IxR _ (rIx K)) (pv 3) pe_int (fun _ _ => rfl)) pa_nil))))) (pa_cons (pe_ix (ix_seq : IxR _ (rIx K)) (pv 3) pe_int (fun _ _ => rfl)) pa_nil)))))))))), ?_⟩
  unfold takeExpr at q
  walk_at "ss"
  refine ⟨p, ws, i, rfl, e, sm, fun v H1 s1 t1 => ?_⟩
  cases t1
  walk_at "ss"
  refine ⟨_, rfl, sm.at6 _, fun H2 s2 => ?_⟩
  have e2 := s2 _ _ (s1 _ _ e)
  walk_at "ss"
  cases hn : nameW (wordAt ws i) with
  | false =>
    rw [hn, if_neg (fun h => Bool.false_ne_true h.1)] at q
    refine iteT ?_
    refine iteT ?_
    walk_at "ss"
    exact ⟨p, ws, i, rfl, e2, sm, fun v H3 s3 t3 => q v H3 ((s1.trans s2).trans s3) t3⟩
  | true =>
    refine iteF ?_
    walk_at "ss"
    refine ⟨p, ws, i + 1, rfl, e2, sm, fun v H3 s3 t3 => ?_⟩
    cases t3
    have e3 := s3 _ _ e2
    have s03 := (s1.trans s2).trans s3
    refine o_neS rfl ?_
    walk_at "ss"
    by_cases hb : wordAt ws (i + 1) = "["
    · rw [if_pos ⟨hn, hb⟩] at q
      rw [hb, decide_eq_true rfl]
      refine iteF ?_
      walk_at "ss"
      refine ⟨p, ws, i + 2, rfl, e3, sm, fun v H4 s4 t4 => ?_⟩
      dsimp only at t4
      have s04 := s03.trans s4
      have e4 := s4 _ _ e3
      cases ht : takePlain ws (i + 2) with
      | none =>
        rw [ht] at t4 q
        obtain rfl := tp_none t4
        walk_at "ss"
        refine iteT ?_
        refine iteT ?_
        walk_at "ss"
        exact q _ H4 s04 .non
      | some r =>
        obtain ⟨x, j⟩ := r
        rw [ht] at t4 q
        dsimp only at q
        obtain ⟨a, x1, y1, rfl, ea, tx, ty⟩ := tp_pair t4
        obtain rfl := tp_int ty
        walk_at "ss"
        refine iteF ?_
        walk_at "ss"
        refine o_ixT (tup_of ea) (atI_nat (j := 1) rfl) ?_
        walk_at "ss"
        refine ⟨p, ws, j, rfl, e4, sm, fun v H5 s5 t5 => ?_⟩
        cases t5
        have e5 := s5 _ _ e4
        have s05 := s04.trans s5
        walk_at "ss"
        refine o_neS rfl ?_
        walk_at "ss"
        by_cases hc : wordAt ws j = "]"
        · rw [if_pos hc] at q
          rw [hc, decide_eq_true rfl]
          refine iteF ?_
          walk_at "ss"
          refine o_ixT (tup_of (s5 _ _ ea)) (atI_nat (j := 1) rfl) ?_
          walk_at "ss"
          refine ⟨p, ws, j + 1, rfl, e5, sm, fun v H6 s6 t6 => ?_⟩
          dsimp only at t6
          have e6 := s6 _ _ e5
          have s06 := s05.trans s6
          cases hp : takePlus ws (j + 1) with
          | none =>
            rw [hp] at t6 q
            obtain rfl := tp_none t6
            walk_at "ss"
            refine iteT ?_
            walk_at "ss"
            exact q _ H6 s06 .non
          | some r =>
            obtain ⟨n, k⟩ := r
            rw [hp] at t6 q
            obtain ⟨a2, x2, y2, rfl, ea2, tx2, ty2⟩ := tp_pair t6
            obtain rfl := tp_int tx2
            obtain rfl := tp_int ty2
            walk_at "ss"
            refine iteF ?_
            walk_at "ss"
            refine o_ixL (lst_of e6) (strs_at (name_lt hn)) ?_
            walk_at "ss"
            refine o_ixT (tup_of (s6 _ _ (s5 _ _ ea))) (atI_nat (j := 0) rfl) ?_
            walk_at "ss"
            refine o_ixT (tup_of ea2) (atI_nat (j := 0) rfl) ?_
            walk_at "ss"
            refine n_obj (lz (by simp)) fun p7 H7 n7 s7 e7 => ?_
            walk_at "ss"
            refine o_ixT (tup_of (s7 _ _ ea2)) (atI_nat (j := 1) rfl) ?_
            walk_at "ss"
            refine n_obj (lz (by simp)) fun p8 H8 n8 s8 e8 => ?_
            exact q _ H8 ((s06.trans s7).trans s8) (pair_tp e8 (.tup (s8 _ _ e7) (.cons (.str _) (.cons (.str _) (.cons (Tp.tk (((s5.trans s6).trans s7).trans s8).tk tx) (.cons (.int _) .nil))))) (.int _))
        · rw [if_neg hc] at q
          rw [decide_eq_false (fun h => hc (V.str.inj h))]
          refine iteT ?_
          walk_at "ss"
          exact q _ H5 s05 .non
    · rw [if_neg (fun h => hb h.2)] at q
      rw [decide_eq_false (fun h => hb (V.str.inj h))]
      refine iteT ?_
      walk_at "ss"
      exact ⟨p, ws, i, rfl, e3, sm, fun v H3 s3' t3 => q v H3 (s03.trans s3') t3⟩
def spWhole : Sp := fun vs H Q _ => ∃ (v : V) (p : Addr) (ws : List Str) (t : Option (Ex × Nat)), vs = [v, .ref p] ∧ Tp H v (eD t) ∧ H p = some (.lst (ws.map V.str)) ∧ ∀ v, Tp H v (oD (wholeE t ws.length)) → Q v H
theorem k_whole (T : Tx K mg) : C8.Cal P w K mg base 1 "_whole" spWhole [] := by
  refine cal_of (N := n_whole) T.d_whole sc_whole (fun _ _ F => F.bindsN fun _ _ _ _ _ _ us hl => match us, hl with | [_, _], _ => rfl) (fun vs H Q E h => ?_) (fun f cdv A outer s H vs Q E hr h => ?_)
  · obtain ⟨v, p, ws, t, rfl, _⟩ := h
    rfl
  · obtain ⟨v, p, ws, t, rfl, ht, e, q⟩ := h
    refine ⟨_, (pss_cons (ps_if (PW.pt (pw_or (pt_cmpR op_isN2 (pv 0) pe_non (nomark _)) (pw_or1 (pt_cmpR (op_ne2 hr.units : OpR _ _ (rNe2 K)) (pe_ix (ix_seq : IxR _ (rIx K)) (pv 0) pe_int (fun _ _ => rfl)) (pe_callB (call_len2 : CallR _ _ (rLn K)) (by rfl) T.z_len (by decide +kernel) (pa_cons (pv 1) pa_nil)) (nomark _))))) (pss_one (ps_ret pe_non)) pss_nil) (pss_one (ps_ret (pe_ix (ix_seq : IxR _ (rIx K)) (pv 0) pe_int (fun _ _ => rfl))))), ?_⟩
    walk_at "ss"
    cases t with
    | none =>
      obtain rfl := tp_none ht
      refine iteT ?_
      refine iteT ?_
      walk_at "ss"
      exact q _ .non
    | some r =>
      obtain ⟨x, j⟩ := r
      obtain ⟨a, x1, y1, rfl, ea, tx, ty⟩ := tp_pair ht
      obtain rfl := tp_int ty
      unfold wholeE at q
      dsimp only at q
      refine iteF ?_
      walk_at "ss"
      refine o_ixT (tup_of ea) (atI_nat (j := 1) rfl) ?_
      walk_at "ss"
      refine b_lenL (lst_of e) ?_
      refine o_neS rfl ?_
      rw [List.length_map]
      walk_at "ss"
      by_cases hj : j = ws.length
      · rw [if_pos hj] at q
        rw [hj, decide_eq_true rfl]
        refine iteF ?_
        walk_at "ss"
        refine o_ixT (tup_of ea) (atI_nat (j := 0) rfl) ?_
        exact q _ tx
      · rw [if_neg hj] at q
        rw [decide_eq_false (fun h => hj (by have := V.int.inj h; omega))]
        refine iteT ?_
        walk_at "ss"
        exact q _ .non
def spExprOf : Sp := fun vs H Q _ => ∃ (p : Addr) (ws : List Str), vs = [.ref p] ∧ H p = some (.lst (ws.map V.str)) ∧ SmallW ws ∧ ∀ v H', Same H H' → Tp H' v (oD (readW ws)) → Q v H'
theorem k_expression_of (T : Tx K mg) : C8.Cal P w K mg base 7 "expression_of" spExprOf [] := by
  refine cal_of (N := n_expression_of) T.d_expression_of sc_expression_of (fun _ _ F => F.bindsN fun _ _ _ _ _ _ us hl => match us, hl with | [_], _ => rfl) (fun vs H Q E h => ?_) (fun f cdv A outer s H vs Q E hr h => ?_)
  · obtain ⟨p, ws, rfl, _⟩ := h
    rfl
  · obtain ⟨p, ws, rfl, e, sm, q⟩ := h
    refine ⟨_, (pss_one (ps_ret (C8.pe_c (k_whole T) hr (by first | decide | omega) (by rfl) (pa_cons (C8.pe_c (k_take_expression T) hr (by first | decide | omega) (by rfl) (pa_cons (pv 0) (pa_cons pe_int pa_nil))) (pa_cons (pv 0) pa_nil))))), ?_⟩
    walk_at "ss"
    refine ⟨p, ws, 0, rfl, e, sm, fun v H1 s1 t1 => ?_⟩
    walk_at "ss"
    exact ⟨v, p, ws, _, rfl, t1, s1 _ _ e, fun v t => q v H1 s1 t⟩
def readT (z : Str) : Option Ex := match wordsW z with
  | none => none
  | some ws => readW ws
def spRead : Sp := fun vs H Q _ => ∃ (z : Str), vs = [.str z] ∧ z.length ≤ 10000 ∧ ∀ v H', Same H H' → Tp H' v (oD (readT z)) → Q v H'
theorem k_read_expression (T : Tx K mg) : C8.Cal P w K mg base 8 "read_expression" spRead [] := by
  refine cal_of (N := n_read_expression) T.d_read_expression sc_read_expression (fun _ _ F => F.bindsN fun _ _ _ _ _ _ us hl => match us, hl with | [_], _ => rfl) (fun vs H Q E h => ?_) (fun f cdv A outer s H vs Q E hr h => ?_)
  · obtain ⟨z, rfl, _⟩ := h
    rfl
  · obtain ⟨z, rfl, hz, q⟩ := h
    refine ⟨_, (pss_cons (ps_asg (C8.pe_c (k_split_row T) hr (by first | decide | omega) (by rfl) (pa_cons (pv 0) pa_nil)) (pg_name (i := 1) sc_read_expression.nd rfl (Or.inl rfl))) (pss_one (ps_ret (pe_ifExp (pt_cmpR op_isN2 (pv 1) pe_non (nomark _)) pe_non (C8.pe_c (k_expression_of T) hr (by first | decide | omega) (by rfl) (pa_cons (pv 1) pa_nil)))))), ?_⟩
    walk_at "ss"
    refine ⟨z, rfl, by omega, fun v H1 s1 w1 => ?_⟩
    unfold readT at q
    cases hw : wordsW z with
    | none =>
      rw [hw] at w1 q
      obtain rfl : v = .non := w1
      walk_at "ss"
      refine iteT ?_
      walk_at "ss"
      exact q _ H1 s1 .non
    | some ws =>
      rw [hw] at w1 q
      obtain ⟨p, rfl, _, e⟩ := w1
      have sm := wordsOf_small hw
      walk_at "ss"
      refine iteF ?_
      walk_at "ss"
      exact ⟨p, ws, rfl, e, ⟨by omega, fun y hy => by have := sm.2 y hy; omega⟩, fun v H2 s2 t2 => q v H2 (s1.trans s2) t2⟩
end
end K02
namespace K02
open PySem PySem.Spec PyProof.Rows L2 Wy WM W3 W4 W5

section
variable {P : Program} {w : World} {K : PySem.W.Frag} {mg : Str → Option Value} {base : Heap}
theorem plusS_pos {p : Int} (h : 0 < p) : Str.empty ++ (" + " : Str) ++ Str.ofString (toString p) = plusS p := by
  unfold plusS
  rw [if_neg (by omega), if_pos h, toStr_nat (by omega)]
  refine str_ext ?_
  rw [app_tl, app_tl, app_tl]
  rfl
theorem plusS_neg {p : Int} (h : p < 0) : Str.empty ++ (" - " : Str) ++ Str.ofString (toString (-p)) = plusS p := by
  unfold plusS
  rw [if_neg (by omega), if_neg (by omega), toStr_nat (by omega)]
  refine str_ext ?_
  rw [app_tl, app_tl, app_tl]
  rfl
def spPlusS : Sp := fun vs H Q _ => ∃ p : Int, vs = [.int p] ∧ p.natAbs < 10 ^ 10 ∧ Q (.str (plusS p)) H
theorem k_write_plus (T : Tx K mg) : C8.Cal P w K mg base 1 "_write_plus" spPlusS [] := by
  refine cal_of (N := n_write_plus) T.d_write_plus sc_write_plus (fun _ _ F => F.bindsN fun _ _ _ _ _ _ us hl => match us, hl with | [_], _ => rfl) (fun vs H Q E h => ?_) (fun f cdv A outer s H vs Q E hr h => ?_)
  · obtain ⟨p, rfl, _⟩ := h
    rfl
  · obtain ⟨p, rfl, hp, q⟩ := h
    have hl := plusS_len hp
    refine ⟨_, (pss_cons (ps_if (pt_cmpR (op_eq2 hr.units : OpR _ _ (rEq2 K)) (pv 0) pe_int (nomark _)) (pss_one (ps_ret pe_str)) pss_nil) (pss_one (ps_ret (pe_ifExp (pt_cmpR op_gt (pv 0) pe_int (nomark _)) (pe_joined2 (PJ.cons pe_str (PJ.cons (pe_fmt (pv 0)) PJ.nil))) (pe_joined2 (PJ.cons pe_str (PJ.cons (pe_fmt (pe_un un_neg (pv 0))) PJ.nil))))))), ?_⟩
    walk_at "ss"
    refine o_eqS rfl ?_
    walk_at "ss"
    refine ite2 (fun e => ?_) (fun e => ?_)
    · have e := V.int.inj (of_decide_eq_true e)
      walk_at "ss"
      subst e
      exact q
    · walk_at "ss"
      refine ite2 (fun e1 => ?_) (fun e1 => ?_)
      · have e1 := of_decide_eq_true e1
        have e2 := plusS_pos e1
        walk_at "ss"
        refine k_j (by decide +kernel) ?_
        walk_at "ss"
        refine k_fI (by omega) ?_
        refine k_j (by rw [e2]; exact lz (by omega)) ?_
        walk_at "ss"
        rw [e2]
        exact q
      · have e1 := of_decide_eq_false (Bool.eq_false_iff.mpr e1)
        have e : p ≠ 0 := fun z => e (by rw [z]; exact decide_eq_true rfl)
        have e2 := plusS_neg (p := p) (by omega)
        walk_at "ss"
        refine k_j (by decide +kernel) ?_
        walk_at "ss"
        refine k_fI (by omega) ?_
        refine k_j (by rw [e2]; exact lz (by omega)) ?_
        walk_at "ss"
        rw [e2]
        exact q
def dep : Ex → Nat
  | .num _ => 0
  | .var _ _ => 0
  | .item _ i _ => dep i + 1
theorem plain_dep {e : Ex} (h : Plain e) : dep e = 0 := by
  cases e with
  | num n => rfl
  | var x p => rfl
  | item x i p => exact h.elim
theorem good_dep {e : Ex} (h : Good e) : dep e ≤ 1 := by
  cases e with
  | num n => exact Nat.zero_le _
  | var x p => exact Nat.zero_le _
  | item x i p =>
    show dep i + 1 ≤ 1
    rw [plain_dep h.2.1]
    exact Nat.le_refl _
/-- what an expression's tuple holds -/
theorem ex_num {H : Hp} {v : V} {n : Int} (h : Tp H v (Ex.num n).d) : ∃ a, v = .ref a ∧ H a = some (.tup [.str "num", .int n]) := by
  cases h with
  | tup e r =>
    cases r with | cons h1 r => cases r with | cons h2 r =>
      cases r
      cases h1
      cases h2
      exact ⟨_, rfl, e⟩
theorem ex_var {H : Hp} {v : V} {x : Str} {p : Int} (h : Tp H v (Ex.var x p).d) : ∃ a, v = .ref a ∧ H a = some (.tup [.str "var", .str x, .int p]) := by
  cases h with
  | tup e r =>
    cases r with | cons h1 r => cases r with | cons h2 r => cases r with | cons h3 r =>
      cases r
      cases h1
      cases h2
      cases h3
      exact ⟨_, rfl, e⟩
theorem ex_item {H : Hp} {v : V} {x : Str} {i : Ex} {p : Int} (h : Tp H v (Ex.item x i p).d) : ∃ a u, v = .ref a ∧ H a = some (.tup [.str "item", .str x, u, .int p]) ∧ Tp H u i.d := by
  cases h with
  | tup e r =>
    cases r with | cons h1 r => cases r with | cons h2 r => cases r with | cons h3 r => cases r with | cons h4 r =>
      cases r
      cases h1
      cases h2
      cases h4
      exact ⟨_, _, rfl, e, h3⟩
/-- an expression's text -/
def spText (n : Nat) : Sp := fun vs H Q _ => ∃ (v : V) (e : Ex), vs = [v] ∧ Tp H v e.d ∧ Good e ∧ dep e < n ∧ Q (.str (textE e)) H
theorem spText_no (vs : List V) (H : Hp) (Q : VK) (E : XK) : ¬ spText 0 vs H Q E := by
  rintro ⟨v, e, _, _, _, h, _⟩
  omega
theorem k_write_expression (T : Tx K mg) : ∀ n : Nat, C8.Cal P w K mg base (n + 1) "write_expression" (spText n) []
  | 0 => cal_never (ps := ["expression"]) T.d_write_expression (fun _ _ F => F.bindsN fun _ _ _ _ _ _ us hl => match us, hl with | [_], _ => rfl) spText_no
  | n + 1 => by
    have ih := k_write_expression T n
    refine cal_of (N := n_write_expression) T.d_write_expression sc_write_expression (fun _ _ F => F.bindsN fun _ _ _ _ _ _ us hl => match us, hl with | [_], _ => rfl) (fun vs H Q E h => ?_) (fun f cdv A outer s H vs Q E hr h => ?_)
    · obtain ⟨v, e, rfl, _⟩ := h
      rfl
    · obtain ⟨v, e, rfl, te, hg, hd, q⟩ := h
      have hl := good_len hg
      refine ⟨_, (pss_cons (ps_if (pt_cmpR (op_eq2 hr.units : OpR _ _ (rEq2 K)) (pe_ix (ix_seq : IxR _ (rIx K)) (pv 0) pe_int (fun _ _ => rfl)) pe_str (nomark _)) (pss_one (ps_ret (pe_callTy call_strI (by rfl) T.z_str (by decide +kernel) (pa_cons (pe_ix (ix_seq : IxR _ (rIx K)) (pv 0) pe_int (fun _ _ => rfl)) pa_nil)))) pss_nil) (pss_cons (ps_if (pt_cmpR (op_eq2 hr.units : OpR _ _ (rEq2 K)) (pe_ix (ix_seq : IxR _ (rIx K)) (pv 0) pe_int (fun _ _ => rfl)) pe_str (nomark _)) (pss_cons (ps_asg (pv 0) (pg_tup (by rfl) (pgs_cons (pg_name (i := 1) sc_write_expression.nd rfl (Or.inl rfl)) (pgs_cons (pg_name (i := 2) sc_write_expression.nd rfl (Or.inl rfl)) (pgs_cons (pg_name (i := 3) sc_write_expression.nd rfl (Or.inl rfl)) pgs_nil))) : PG _ _ (gTup K _ _))) (pss_one (ps_ret (pe_op op_add3 (pv 2) (C8.pe_c (k_write_plus T) hr (by first | decide | omega) (by rfl) (pa_cons (pv 3) pa_nil)))))) pss_nil) (pss_cons (ps_asg (pv 0) (pg_tup (by rfl) (pgs_cons (pg_name (i := 1) sc_write_expression.nd rfl (Or.inl rfl)) (pgs_cons (pg_name (i := 2) sc_write_expression.nd rfl (Or.inl rfl)) (pgs_cons (pg_name (i := 4) sc_write_expression.nd rfl (Or.inl rfl)) (pgs_cons (pg_name (i := 3) sc_write_expression.nd rfl (Or.inl rfl)) pgs_nil)))) : PG _ _ (gTup K _ _))) (pss_one (ps_ret (pe_joined2 (PJ.cons (pe_fmt (pv 2)) (PJ.cons pe_str (PJ.cons (pe_fmt (C8.pe_c ih hr (by first | decide | omega) (by rfl) (pa_cons (pv 4) pa_nil))) (PJ.cons pe_str (PJ.cons (pe_fmt (C8.pe_c (k_write_plus T) hr (by first | decide | omega) (by rfl) (pa_cons (pv 3) pa_nil))) PJ.nil))))))))))), ?_⟩
      cases e with
      | num m =>
        obtain ⟨a, rfl, ea⟩ := ex_num te
        have hm : m.natAbs < 10 ^ 10 := hg
        walk_at "ss"
        refine o_ixT (tup_of ea) (atI_nat (j := 0) rfl) ?_
        walk_at "ss"
        refine o_eqS rfl ?_
        walk_at "ss"
        refine iteT ?_
        walk_at "ss"
        refine o_ixT (tup_of ea) (atI_nat (j := 1) rfl) ?_
        walk_at "ss"
        refine b_strI (by omega) ?_
        exact q
      | var x p =>
        obtain ⟨a, rfl, ea⟩ := ex_var te
        walk_at "ss"
        refine o_ixT (tup_of ea) (atI_nat (j := 0) rfl) ?_
        walk_at "ss"
        refine o_eqS rfl ?_
        walk_at "ss"
        refine iteF ?_
        walk_at "ss"
        refine o_ixT (tup_of ea) (atI_nat (j := 0) rfl) ?_
        walk_at "ss"
        refine o_eqS rfl ?_
        walk_at "ss"
        refine iteT ?_
        walk_at "ss"
        refine g_tup (tup_of ea) rfl ?_
        walk_at "ss"
        refine ⟨p, rfl, hg.2, ?_⟩
        refine o_addS (lz (by rw [← app_len]; exact Nat.le_trans hl (by decide))) ?_
        exact q
      | item x i p =>
        obtain ⟨a, u, rfl, ea, ti⟩ := ex_item te
        have li := plain_len hg.2.1
        have lp := plusS_len hg.2.2
        have lx := (name_parts hg.1).2.1
        walk_at "ss"
        refine o_ixT (tup_of ea) (atI_nat (j := 0) rfl) ?_
        walk_at "ss"
        refine o_eqS rfl ?_
        walk_at "ss"
        refine iteF ?_
        walk_at "ss"
        refine o_ixT (tup_of ea) (atI_nat (j := 0) rfl) ?_
        walk_at "ss"
        refine o_eqS rfl ?_
        walk_at "ss"
        refine iteF ?_
        walk_at "ss"
        refine g_tup (tup_of ea) rfl ?_
        walk_at "ss"
        refine k_fS (lz (by omega)) ?_
        refine k_j (lz (by rw [app_len]; show 0 + _ ≤ _; omega)) ?_
        walk_at "ss"
        refine k_j (lz (by rw [app_len, app_len]; show 0 + _ + 1 ≤ _; omega)) ?_
        walk_at "ss"
        refine ⟨u, i, rfl, ti, hg.2.1.good, by have : dep i + 1 < n + 1 := hd; omega, ?_⟩
        refine k_fS (lz (by omega)) ?_
        refine k_j (lz (by rw [app_len, app_len, app_len]; show 0 + _ + 1 + _ ≤ _; omega)) ?_
        walk_at "ss"
        refine k_j (lz (by rw [app_len, app_len, app_len, app_len]; show 0 + _ + 1 + _ + 1 ≤ _; omega)) ?_
        walk_at "ss"
        refine ⟨p, rfl, hg.2.2, ?_⟩
        refine k_fS (lz (by omega)) ?_
        have e5 : Str.empty ++ x ++ ("[" : Str) ++ textE i ++ ("]" : Str) ++ plusS p = textE (.item x i p) := by
          refine str_ext ?_
          show (Str.empty ++ x ++ ("[" : Str) ++ textE i ++ ("]" : Str) ++ plusS p).cps.toList = (x ++ ("[" : Str) ++ textE i ++ ("]" : Str) ++ plusS p).cps.toList
          rw [app_tl, app_tl, app_tl, app_tl, app_tl, app_tl, app_tl, app_tl, app_tl]
          rfl
        refine k_j (by rw [e5]; exact lz (by omega)) ?_
        walk_at "ss"
        rw [e5]
        exact q
end
end K02
namespace K02
open PySem PySem.Spec PyProof.Rows L2 Wy WM W3 W4 W5

section
variable {P : Program} {w : World} {K : PySem.W.Frag} {mg : Str → Option Value} {base : Heap}
/-- an int below many, out of the hand -/
def spWide : Sp := fun vs H Q _ => ∃ (h d : Addr) (m : Int), vs = [.ref h, .int m] ∧ HandAt H h d ∧ 0 < m ∧ ∀ r H', 0 ≤ r → r < m → Keep h H H' → HandAt H' h d → Q (.int r) H'
theorem k_law_wide (T : Tx K mg) : C8.Cal P w K mg base 2 "_law_wide" spWide [] := by
  refine cal_of (N := n_law_wide) T.d_law_wide sc_law_wide (fun _ _ F => F.bindsN fun _ _ _ _ _ _ us hl => match us, hl with | [_, _], _ => rfl) (fun vs H Q E h => ?_) (fun f cdv A outer s H vs Q E hr h => ?_)
  · obtain ⟨a, d, m, rfl, _⟩ := h
    rfl
  · obtain ⟨a, d, m, rfl, hh, hm, q⟩ := h
    refine ⟨_, (pss_cons (ps_asg (C8.pe_c (k_law_take T) hr (by first | decide | omega) (by rfl) (pa_cons (pv 0) (pa_cons pe_int pa_nil))) (pg_name (i := 2) sc_law_wide.nd rfl (Or.inl rfl))) (pss_one (ps_ret (pe_op op_mod (pe_callTy call_int2 (by rfl) T.z_int (by decide +kernel) (pa_cons (pe_op op_add3 (pe_op op_mul2 (pv 2) pe_int) (C8.pe_c (k_law_take T) hr (by first | decide | omega) (by rfl) (pa_cons (pv 0) (pa_cons pe_int pa_nil)))) pa_nil)) (pv 1))))), ?_⟩
    walk_at "ss"
    refine ⟨a, d, _, rfl, hh, by omega, fun r H1 r0 r1 c1 hh1 => ?_⟩
    walk_at "ss"
    refine ⟨a, d, _, rfl, hh1, by omega, fun r2 H2 r3 r4 c2 hh2 => ?_⟩
    walk_at "ss"
    exact q _ H2 (Int.emod_nonneg _ (by omega)) (Int.emod_lt_of_pos _ hm) (c1.keep.trans c2.keep) hh2
def spGenNum : Sp := fun vs H Q _ => ∃ (h d : Addr), vs = [.ref h] ∧ HandAt H h d ∧ ∀ r H', 0 ≤ r → r < 10 ^ 10 → Keep h H H' → HandAt H' h d → Q (.int r) H'
theorem int_item (xs : List V) {lo hi : Int} (h : xs.all (fun x => match x with | .int i => decide (lo ≤ i) && decide (i < hi) | _ => false) = true) {j : Nat} (hj : j < xs.length) : ∃ i : Int, xs[j]? = some (.int i) ∧ lo ≤ i ∧ i < hi := by
  have h1 := List.all_eq_true.mp h xs[j] (List.getElem_mem hj)
  cases e : xs[j] with
  | int i =>
    rw [e] at h1
    have h2 := Bool.and_eq_true_iff.mp h1
    exact ⟨i, by rw [List.getElem?_eq_getElem hj, e], of_decide_eq_true h2.1, of_decide_eq_true h2.2⟩
  | _ =>
    rw [e] at h1
    cases h1
theorem k_law_number (T : Tx K mg) : C8.Cal P w K mg base 3 "_law_number" spGenNum [] := by
  refine cal_of (N := n_law_number) T.d_law_number sc_law_number (fun _ _ F => F.bindsN fun _ _ _ _ _ _ us hl => match us, hl with | [_], _ => rfl) (fun vs H Q E h => ?_) (fun f cdv A outer s H vs Q E hr h => ?_)
  · obtain ⟨a, d, rfl, _⟩ := h
    rfl
  · obtain ⟨a, d, rfl, hh, q⟩ := h
    refine ⟨_, (pss_cons (ps_asg (C8.pe_c (k_law_take T) hr (by first | decide | omega) (by rfl) (pa_cons (pv 0) (pa_cons pe_int pa_nil))) (pg_name (i := 1) sc_law_number.nd rfl (Or.inl rfl))) (pss_cons (ps_if (pt_cmpR (op_eq2 hr.units : OpR _ _ (rEq2 K)) (pv 1) pe_int (nomark _)) (pss_one (ps_ret (C8.pe_c (k_law_wide T) hr (by first | decide | omega) (by rfl) (pa_cons (pv 0) (pa_cons (pe_op op_pow pe_int pe_int) pa_nil))))) pss_nil) (pss_cons (ps_if (pt_cmpR (op_eq2 hr.units : OpR _ _ (rEq2 K)) (pv 1) pe_int (nomark _)) (pss_one (ps_ret (pe_ix (ix_seq : IxR _ (rIx K)) (pe_lst (pa_cons pe_int (pa_cons pe_int (pa_cons pe_int (pa_cons pe_int (pa_cons pe_int (pa_cons pe_int pa_nil))))))) (C8.pe_c (k_law_take T) hr (by first | decide | omega) (by rfl) (pa_cons (pv 0) (pa_cons pe_int pa_nil))) (fun _ _ => rfl)))) pss_nil) (pss_one (ps_ret (C8.pe_c (k_law_take T) hr (by first | decide | omega) (by rfl) (pa_cons (pv 0) (pa_cons pe_int pa_nil)))))))), ?_⟩
    walk_at "ss"
    refine ⟨a, d, _, rfl, hh, by omega, fun r H1 r0 r1 c1 hh1 => ?_⟩
    walk_at "ss"
    refine o_eqS rfl ?_
    walk_at "ss"
    refine ite2 (fun e => ?_) (fun e => ?_)
    · walk_at "ss"
      exact ⟨a, d, _, rfl, hh1, by decide, fun r2 H2 r3 r4 k2 hh2 => q r2 H2 r3 r4 (c1.keep.trans k2) hh2⟩
    · walk_at "ss"
      refine o_eqS rfl ?_
      walk_at "ss"
      refine ite2 (fun e => ?_) (fun e => ?_)
      · walk_at "ss"
        refine n_obj (lz (by simp)) fun p2 H2 n2 s2 e2 => ?_
        have nn := hh1.new n2
        walk_at "ss"
        refine ⟨a, d, _, rfl, hh1.same s2, by omega, fun r3 H3 r4 r5 c3 hh3 => ?_⟩
        obtain ⟨j, hj⟩ : ∃ j : Nat, r3 = (j : Int) := ⟨r3.toNat, by omega⟩
        subst hj
        obtain ⟨i, g, g1, g2⟩ := int_item ([.int 0, .int 1, .int 9, .int 10, .int 999999, .int 9999999999]) (lo := 0) (hi := 10 ^ 10) (by decide +kernel) (j := j) (show j < 6 by omega)
        refine o_ixL (lst_of (c3.at e2 nn.1.symm)) (atI_nat g) ?_
        exact q i H3 g1 g2 ((c1.keep.trans s2.keep).trans c3.keep) hh3
      · walk_at "ss"
        exact ⟨a, d, _, rfl, hh1, by omega, fun r2 H2 r3 r4 c2 hh2 => q r2 H2 r3 (by omega) (c1.keep.trans c2.keep) hh2⟩
def spGenName : Sp := fun vs H Q _ => ∃ (h d : Addr), vs = [.ref h] ∧ HandAt H h d ∧ ∀ x H', nameW x = true → Keep h H H' → HandAt H' h d → Q (.str x) H'
theorem letter_at {j : Nat} (h : j < 26) : ∃ c, atI LET.cps.toList (j : Int) = some c ∧ c ∈ tl LET := by
  have hl : j < LET.length := Nat.lt_of_lt_of_le h (by decide +kernel)
  obtain ⟨c, g1, g2⟩ := atI_cps hl
  exact ⟨c, g2, List.mem_of_getElem? g1⟩
theorem reserved_q : ∀ x ∈ RESV, ∀ y, x = V.str y → nameW (y ++ ("q" : Str)) = true := by
  have h : RESV.all (fun x => match x with | .str y => nameW (y ++ ("q" : Str)) | _ => false) = true := by decide +kernel
  intro x hx y e
  have := List.all_eq_true.mp h x hx
  rw [e] at this
  exact this
theorem inV_mem {y : Str} : ∀ {xs : List V}, inV (.str y) xs = true → ∃ x ∈ xs, x = V.str y := by
  intro xs h
  obtain ⟨x, hx, e⟩ := List.any_eq_true.mp h
  refine ⟨x, hx, ?_⟩
  cases x with
  | str z => exact congrArg V.str (eq_of_beq (show (z == y) = true from e))
  | _ => cases e
theorem k_law_name (T : Tx K mg) : C8.Cal P w K mg base 2 "_law_name" spGenName [] := by
  refine cal_of (N := n_law_name) T.d_law_name sc_law_name (fun _ _ F => F.bindsN fun _ _ _ _ _ _ us hl => match us, hl with | [_], _ => rfl) (fun vs H Q E h => ?_) (fun f cdv A outer s H vs Q E hr h => ?_)
  · obtain ⟨a, d, rfl, _⟩ := h
    rfl
  · obtain ⟨a, d, rfl, hh, q⟩ := h
    refine ⟨_, (pss_cons (ps_asg (pe_ix (ix_seq : IxR _ (rIx K)) (pe_lst (pa_cons pe_int (pa_cons pe_int (pa_cons (pe_op op_add3 pe_int (C8.pe_c (k_law_take T) hr (by first | decide | omega) (by rfl) (pa_cons (pv 0) (pa_cons pe_int pa_nil)))) pa_nil)))) (C8.pe_c (k_law_take T) hr (by first | decide | omega) (by rfl) (pa_cons (pv 0) (pa_cons pe_int pa_nil))) (fun _ _ => rfl)) (pg_name (i := 1) sc_law_name.nd rfl (Or.inl rfl))) (pss_cons (ps_asg (pe_join2 pe_str (pe_lc (own := [("k", 3)]) (g := gName 3) (by rfl) sc_law_name.nd (pi_range1 (by rfl) T.z_range (pa_cons (pv 1) pa_nil)) (blkOk_by (own := [("k", 3)]) (N := n_law_name) (sc := defScope s_law_name) (by decide +kernel)) (fun _ _ _ _ _ => pg_name (i := 3) sc_law_name.nd rfl (Or.inl rfl)) (fun _ _ _ _ _ => pts_nil) (fun _ _ _ _ _ => (pe_ix (ix_seq : IxR _ (rIx K)) (pe_c0 (k_law_letters T) hr (by first | decide | omega) (by rfl)) (C8.pe_c (k_law_take T) hr (by first | decide | omega) (by rfl) (pa_cons (pv 0) (pa_cons pe_int pa_nil))) (fun _ _ => rfl)))) : PE _ _ (tM1 (rJoin K) _ _)) (pg_name (i := 2) sc_law_name.nd rfl (Or.inl rfl))) (pss_cons (ps_if (pt_cmpR (op_in2 : OpR _ _ (rIn2 K)) (pv 2) (pe_c0 (k_law_reserved T) hr (by first | decide | omega) (by rfl)) (by rfl)) (pss_one (ps_ret (pe_op op_add3 (pv 2) pe_str))) pss_nil) (pss_one (ps_ret (pv 2)))))), ?_⟩
    walk_at "ss"
    refine ⟨a, d, _, rfl, hh, by omega, fun r H1 r0 r1 c1 hh1 => ?_⟩
    walk_at "ss"
    refine n_obj (lz (by simp)) fun p2 H2 n2 s2 e2 => ?_
    have nn := hh1.new n2
    walk_at "ss"
    refine ⟨a, d, _, rfl, hh1.same s2, by omega, fun r3 H3 r4 r5 c3 hh3 => ?_⟩
    obtain ⟨j, hj⟩ : ∃ j : Nat, r3 = (j : Int) := ⟨r3.toNat, by omega⟩
    subst hj
    obtain ⟨n, g, n1, n2'⟩ : ∃ n : Int, [V.int 1, V.int 2, V.int (1 + r)][j]? = some (.int n) ∧ 1 ≤ n ∧ n ≤ 12 := by
      have hj : j < 3 := by omega
      match j, hj with
      | 0, _ => exact ⟨1, rfl, by omega, by omega⟩
      | 1, _ => exact ⟨2, rfl, by omega, by omega⟩
      | 2, _ => exact ⟨1 + r, rfl, by omega, by omega⟩
    refine o_ixL (lst_of (c3.at e2 nn.1.symm)) (atI_nat g) ?_
    have k3 : Keep a H H3 := (c1.keep.trans s2.keep).trans c3.keep
    walk_at "ss"
    refine k_r1 (by omega) (by omega) ?_
    refine c_range (fun D i H4 => ∃ acc : List Str, H4 D = some (.lst (acc.map V.str)) ∧ acc.length = i ∧ (∀ y ∈ acc, ∃ c, y = ⟨#[c]⟩ ∧ c ∈ tl LET) ∧ Keep a H H4 ∧ HandAt H4 a d) (fun D H4 nD s4 e4 => ⟨[], e4, rfl, by simp, k3.trans s4.keep, hh3.same s4⟩) (fun D i H4 hi nD p => ?_) (fun D H4 nD p => ?_)
    · obtain ⟨acc, e4, la, ha, k4, hh4⟩ := p
      have nn := hh3.new nD
      walk_at "ss"
      refine ⟨rfl, ?_⟩
      walk_at "ss"
      refine iteT ?_
      walk_at "ss"
      refine ⟨rfl, ?_⟩
      walk_at "ss"
      refine ⟨a, d, _, rfl, hh4, by omega, fun r H5 r2 r3 c5 hh5 => ?_⟩
      obtain ⟨j, hj⟩ : ∃ j : Nat, r = (j : Int) := ⟨r.toNat, by omega⟩
      subst hj
      obtain ⟨c, g2, hc⟩ := letter_at (j := j) (by omega)
      refine o_ixS (by decide +kernel) g2 ?_
      have e5 := c5.at e4 nn.1.symm
      refine c_out e5 (by rw [List.length_map, la]; exact small1000 (by omega)) fun H6 c6 e6 => ⟨acc ++ [⟨#[c]⟩], by rw [e6, List.map_append]; rfl, by rw [List.length_append, la]; rfl, fun y hy => ?_, ?_, hh5.chg c6 nn.1 nn.2⟩
      · rcases List.mem_append.mp hy with hy | hy
        · exact ha y hy
        · exact ⟨c, by simpa using hy, hc⟩
      · exact (k4.trans c5.keep).chg c6 (k3.free nD nn.1.symm)
    · obtain ⟨acc, e4, la, ha, k4, hh4⟩ := p
      have hs : ∀ acc : List Str, (∀ y ∈ acc, ∃ c, y = ⟨#[c]⟩ ∧ c ∈ tl LET) → (acc.map (·.length)).sum = acc.length ∧ ∀ c ∈ (acc.map fun y => y.cps.toList).flatten, c ∈ tl LET := by
        intro acc
        induction acc with
        | nil => intro _; exact ⟨rfl, by simp⟩
        | cons x r ih =>
          intro ha
          obtain ⟨i1, i2⟩ := ih (fun y hy => ha y (List.mem_cons_of_mem _ hy))
          obtain ⟨c, rfl, hc⟩ := ha x List.mem_cons_self
          refine ⟨?_, ?_⟩
          · rw [List.map_cons, List.sum_cons, i1, List.length_cons]
            show 1 + _ = _
            omega
          · intro b hb
            rw [List.map_cons, List.flatten_cons] at hb
            rcases List.mem_append.mp hb with hb | hb
            · rw [show b = c by simpa using hb]
              exact hc
            · exact i2 b hb
      obtain ⟨s1, s2'⟩ := hs acc ha
      walk_at "ss"
      refine m_join (lst_of e4) (by show _ + _ * 0 ≤ _; omega) ?_
      have lx : (Txt.join (Str.ofString "") acc).length = acc.length := by
        rw [str_len, join_empty, List.length_flatten, List.map_map]
        have e6 : (acc.map (List.length ∘ fun y : Str => y.cps.toList)).sum = (acc.map (·.length)).sum := congrArg List.sum (List.map_congr_left fun y _ => (str_len y).symm)
        rw [e6, s1]
      have lc : ∀ c ∈ tl (Txt.join (Str.ofString "") acc), c ∈ tl LET := by
        intro c hc
        have hc : c ∈ (Txt.join (Str.ofString "") acc).cps.toList := hc
        rw [join_empty] at hc
        exact s2' c hc
      generalize Txt.join (Str.ofString "") acc = z at lx lc
      walk_at "ss"
      refine ⟨rfl, fun p5 H5 s5 n5 e5 => ?_⟩
      refine o_inL (lst_of e5) rfl (by decide +kernel) ?_
      walk_at "ss"
      have k5 := k4.trans s5.keep
      have hh5 := hh4.same s5
      cases hv : inV (.str z) c_RESERVED with
      | true =>
        refine iteT ?_
        walk_at "ss"
        refine o_addS (lz (by show _ + 1 ≤ _; omega)) ?_
        obtain ⟨x, hx, ex⟩ := inV_mem hv
        exact q _ H5 (reserved_q x hx z ex) k5 hh5
      | false =>
        refine iteF ?_
        walk_at "ss"
        refine q _ H5 ?_ k5 hh5
        unfold nameW
        rw [decide_eq_true (show 1 ≤ z.length by omega), decide_eq_true (show z.length ≤ 12 by omega), decide_eq_true lc, show inV (.str z) RESV = false from hv]
        rfl
def spGenE (G : Ex → Prop) : Sp := fun vs H Q _ => ∃ (h d : Addr), vs = [.ref h] ∧ HandAt H h d ∧ ∀ v e H', G e → Tp H' v e.d → Keep h H H' → HandAt H' h d → Q v H'
theorem prod_bound {a b : Int} (h1 : 0 ≤ a) (h2 : a < 10 ^ 10) (h3 : b = -1 ∨ b = 0 ∨ b = 1) : (a * b).natAbs < 10 ^ 10 := by
  rcases h3 with rfl | rfl | rfl
  · rw [Int.mul_neg, Int.mul_one]
    omega
  · rw [Int.mul_zero]
    omega
  · rw [Int.mul_one]
    omega
theorem k_law_plain (T : Tx K mg) : C8.Cal P w K mg base 4 "_law_plain" (spGenE Plain) [] := by
  refine cal_of (N := n_law_plain) T.d_law_plain sc_law_plain (fun _ _ F => F.bindsN fun _ _ _ _ _ _ us hl => match us, hl with | [_], _ => rfl) (fun vs H Q E h => ?_) (fun f cdv A outer s H vs Q E hr h => ?_)
  · obtain ⟨a, d, rfl, _⟩ := h
    rfl
  · obtain ⟨a, d, rfl, hh, q⟩ := h
    refine ⟨_, (pss_cons (ps_if (pt_cmpR (op_eq2 hr.units : OpR _ _ (rEq2 K)) (C8.pe_c (k_law_take T) hr (by first | decide | omega) (by rfl) (pa_cons (pv 0) (pa_cons pe_int pa_nil))) pe_int (nomark _)) (pss_one (ps_ret (pe_tup (pa_cons pe_str (pa_cons (pe_op op_mul2 (C8.pe_c (k_law_number T) hr (by first | decide | omega) (by rfl) (pa_cons (pv 0) pa_nil)) (pe_op op_sub pe_int (pe_op op_mul2 pe_int (C8.pe_c (k_law_take T) hr (by first | decide | omega) (by rfl) (pa_cons (pv 0) (pa_cons pe_int pa_nil)))))) pa_nil))))) pss_nil) (pss_one (ps_ret (pe_tup (pa_cons pe_str (pa_cons (C8.pe_c (k_law_name T) hr (by first | decide | omega) (by rfl) (pa_cons (pv 0) pa_nil)) (pa_cons (pe_op op_mul2 (C8.pe_c (k_law_number T) hr (by first | decide | omega) (by rfl) (pa_cons (pv 0) pa_nil)) (pe_op op_sub (C8.pe_c (k_law_take T) hr (by first | decide | omega) (by rfl) (pa_cons (pv 0) (pa_cons pe_int pa_nil))) pe_int)) pa_nil))))))), ?_⟩
    walk_at "ss"
    refine ⟨a, d, _, rfl, hh, by omega, fun r H1 r0 r1 c1 hh1 => ?_⟩
    walk_at "ss"
    refine o_eqS rfl ?_
    walk_at "ss"
    refine ite2 (fun e => ?_) (fun e => ?_)
    · walk_at "ss"
      refine ⟨a, d, rfl, hh1, fun n H2 n0 n1 k2 hh2 => ?_⟩
      walk_at "ss"
      refine ⟨a, d, _, rfl, hh2, by omega, fun r3 H3 r4 r5 c3 hh3 => ?_⟩
      walk_at "ss"
      refine n_obj (lz (by simp)) fun p4 H4 n4 s4 e4 => ?_
      exact q _ (.num (n * (1 - 2 * r3))) H4 (prod_bound n0 n1 (by omega)) (pair_tp e4 (.str _) (.int _)) (((c1.keep.trans k2).trans c3.keep).trans s4.keep) (hh3.same s4)
    · walk_at "ss"
      refine ⟨a, d, rfl, hh1, fun x H2 hx k2 hh2 => ?_⟩
      walk_at "ss"
      refine ⟨a, d, rfl, hh2, fun n H3 n0 n1 k3 hh3 => ?_⟩
      walk_at "ss"
      refine ⟨a, d, _, rfl, hh3, by omega, fun r3 H4 r4 r5 c4 hh4 => ?_⟩
      walk_at "ss"
      refine n_obj (lz (by simp)) fun p5 H5 n5 s5 e5 => ?_
      exact q _ (.var x (n * (r3 - 1))) H5 ⟨hx, prod_bound n0 n1 (by omega)⟩ (.tup e5 (.cons (.str _) (.cons (.str _) (.cons (.int _) .nil)))) ((((c1.keep.trans k2).trans k3).trans c4.keep).trans s5.keep) (hh4.same s5)
theorem k_law_expression (T : Tx K mg) : C8.Cal P w K mg base 5 "_law_expression" (spGenE Good) [] := by
  refine cal_of (N := n_law_expression) T.d_law_expression sc_law_expression (fun _ _ F => F.bindsN fun _ _ _ _ _ _ us hl => match us, hl with | [_], _ => rfl) (fun vs H Q E h => ?_) (fun f cdv A outer s H vs Q E hr h => ?_)
  · obtain ⟨a, d, rfl, _⟩ := h
    rfl
  · obtain ⟨a, d, rfl, hh, q⟩ := h
    refine ⟨_, (pss_cons (ps_if (pt_cmpR (op_eq2 hr.units : OpR _ _ (rEq2 K)) (C8.pe_c (k_law_take T) hr (by first | decide | omega) (by rfl) (pa_cons (pv 0) (pa_cons pe_int pa_nil))) pe_int (nomark _)) (pss_one (ps_ret (C8.pe_c (k_law_plain T) hr (by first | decide | omega) (by rfl) (pa_cons (pv 0) pa_nil)))) pss_nil) (pss_cons (ps_asg (C8.pe_c (k_law_plain T) hr (by first | decide | omega) (by rfl) (pa_cons (pv 0) pa_nil)) (pg_name (i := 1) sc_law_expression.nd rfl (Or.inl rfl))) (pss_one (ps_ret (pe_tup (pa_cons pe_str (pa_cons (C8.pe_c (k_law_name T) hr (by first | decide | omega) (by rfl) (pa_cons (pv 0) pa_nil)) (pa_cons (pv 1) (pa_cons (pe_op op_mul2 (C8.pe_c (k_law_number T) hr (by first | decide | omega) (by rfl) (pa_cons (pv 0) pa_nil)) (pe_op op_sub (C8.pe_c (k_law_take T) hr (by first | decide | omega) (by rfl) (pa_cons (pv 0) (pa_cons pe_int pa_nil))) pe_int)) pa_nil))))))))), ?_⟩
    walk_at "ss"
    refine ⟨a, d, _, rfl, hh, by omega, fun r H1 r0 r1 c1 hh1 => ?_⟩
    walk_at "ss"
    refine o_eqS rfl ?_
    walk_at "ss"
    refine ite2 (fun e => ?_) (fun e => ?_)
    · walk_at "ss"
      exact ⟨a, d, rfl, hh1, fun v e H2 pe te k2 hh2 => q v e H2 pe.good te (c1.keep.trans k2) hh2⟩
    · walk_at "ss"
      refine ⟨a, d, rfl, hh1, fun v i H2 pi ti k2 hh2 => ?_⟩
      walk_at "ss"
      refine ⟨a, d, rfl, hh2, fun x H3 hx k3 hh3 => ?_⟩
      walk_at "ss"
      refine ⟨a, d, rfl, hh3, fun n H4 n0 n1 k4 hh4 => ?_⟩
      walk_at "ss"
      refine ⟨a, d, _, rfl, hh4, by omega, fun r3 H5 r4 r5 c5 hh5 => ?_⟩
      walk_at "ss"
      refine n_obj (lz (by simp)) fun p6 H6 n6 s6 e6 => ?_
      have ti6 := Tp.tk s6.tk (Tp.tk (hh4.chg_tk c5) (Tp.tk (hh3.keep_tk k4) (Tp.tk (hh2.keep_tk k3) ti)))
      exact q _ (.item x i (n * (r3 - 1))) H6 ⟨hx, pi, prod_bound n0 n1 (by omega)⟩ (.tup e6 (.cons (.str _) (.cons (.str _) (.cons ti6 (.cons (.int _) .nil))))) (((((c1.keep.trans k2).trans k3).trans k4).trans c5.keep).trans s6.keep) (hh5.same s6)
end
end K02
namespace K02
open PySem PySem.Spec PyProof.Rows L2 Wy WM W3 W4 W5

section
variable {P : Program} {w : World} {K : PySem.W.Frag} {mg : Str → Option Value} {base : Heap}
/-- a new list of words -/
def RetWs (ws : List Str) (H : Hp) (Q : VK) : Prop := ∀ p H', Same H H' → H p = none → H' p = some (.lst (ws.map V.str)) → Q (.ref p) H'
theorem abs_str {p : Int} : Str.ofString (toString (if p < 0 then -p else p)) = numS p.natAbs := by
  have e : (if p < 0 then -p else p) = ((p.natAbs : Nat) : Int) := by
    split <;> omega
  rw [e, toStr_nat (by omega), Int.toNat_natCast]
def spPlusWords : Sp := fun vs H Q _ => ∃ p : Int, vs = [.int p] ∧ p.natAbs < 10 ^ 10 ∧ RetWs (plusW p) H Q
theorem k_law_plus_words (T : Tx K mg) : C8.Cal P w K mg base 1 "_law_plus_words" spPlusWords [] := by
  refine cal_of (N := n_law_plus_words) T.d_law_plus_words sc_law_plus_words (fun _ _ F => F.bindsN fun _ _ _ _ _ _ us hl => match us, hl with | [_], _ => rfl) (fun vs H Q E h => ?_) (fun f cdv A outer s H vs Q E hr h => ?_)
  · obtain ⟨p, rfl, _⟩ := h
    rfl
  · obtain ⟨p, rfl, hp, q⟩ := h
    unfold plusW at q
    refine ⟨_, (pss_cons (ps_if (pt_cmpR (op_eq2 hr.units : OpR _ _ (rEq2 K)) (pv 0) pe_int (nomark _)) (pss_one (ps_ret (pe_lst pa_nil))) pss_nil) (pss_one (ps_ret (pe_lst (pa_cons (pe_ix (ix_seq : IxR _ (rIx K)) (pe_lst (pa_cons pe_str (pa_cons pe_str pa_nil))) (pe_callTy call_int2 (by rfl) T.z_int (by decide +kernel) (pa_cons (pe_cmpR op_gt (pv 0) pe_int (nomark _)) pa_nil)) (fun _ _ => rfl)) (pa_cons (pe_callTy call_strI (by rfl) T.z_str (by decide +kernel) (pa_cons (pe_callB call_abs2 (by rfl) T.z_abs (by decide +kernel) (pa_cons (pv 0) pa_nil)) pa_nil)) pa_nil)))))), ?_⟩
    walk_at "ss"
    refine o_eqS rfl ?_
    walk_at "ss"
    refine ite2 (fun e => ?_) (fun e => ?_)
    · have e := V.int.inj (of_decide_eq_true e)
      rw [if_pos e] at q
      walk_at "ss"
      refine n_obj (lz (by simp)) fun p1 H1 n1 s1 e1 => ?_
      exact q p1 H1 s1 n1 e1
    · have e : p ≠ 0 := fun z => e (by rw [z]; exact decide_eq_true rfl)
      rw [if_neg e] at q
      walk_at "ss"
      refine n_obj (lz (by simp)) fun p1 H1 n1 s1 e1 => ?_
      walk_at "ss"
      have hsg : atI [V.str "-", V.str "+"] (if decide (0 < p) = true then 1 else 0) = some (.str (if 0 < p then "+" else "-")) := by
        by_cases h : 0 < p
        · rw [decide_eq_true h, if_pos rfl, if_pos h]
          rfl
        · rw [decide_eq_false h, if_neg Bool.false_ne_true, if_neg h]
          rfl
      refine o_ixL (lst_of e1) hsg ?_
      walk_at "ss"
      refine b_strI (by split <;> omega) ?_
      walk_at "ss"
      refine n_obj (lz (by simp)) fun p2 H2 n2 s2 e2 => ?_
      refine q p2 H2 (s1.trans s2) (s1.free n2) ?_
      rw [e2, abs_str]
      rfl
def spWordsOf (n : Nat) : Sp := fun vs H Q _ => ∃ (v : V) (e : Ex), vs = [v] ∧ Tp H v e.d ∧ Good e ∧ dep e < n ∧ RetWs (wordsE e) H Q
theorem wordsE_len {e : Ex} (h : Good e) : (wordsE e).length ≤ 8 := by
  have pl : ∀ p : Int, (plusW p).length ≤ 2 := fun p => by
    unfold plusW
    split
    · exact Nat.zero_le _
    · exact Nat.le_refl _
  have pp : ∀ e : Ex, Plain e → (wordsE e).length ≤ 3 := fun e h => by
    cases e with
    | num n =>
      show (if n < 0 then _ else _ : List Str).length ≤ 3
      split
      · exact Nat.le_succ 2
      · show 1 ≤ 3
        omega
    | var x p =>
      have := pl p
      show (plusW p).length + 1 ≤ 3
      omega
    | item x i p => exact h.elim
  cases e with
  | num n =>
    have := pp (.num n) h
    omega
  | var x p =>
    have := pp (.var x p) h
    omega
  | item x i p =>
    have h1 := pp i h.2.1
    have h2 := pl p
    show ([x, ("[" : Str)] ++ wordsE i ++ [("]" : Str)] ++ plusW p).length ≤ 8
    rw [List.length_append, List.length_append, List.length_append]
    show 2 + _ + 1 + _ ≤ 8
    omega
theorem k_law_words_of (T : Tx K mg) : ∀ n : Nat, C8.Cal P w K mg base (n + 1) "_law_words_of" (spWordsOf n) []
  | 0 => cal_never (ps := ["expression"]) T.d_law_words_of (fun _ _ F => F.bindsN fun _ _ _ _ _ _ us hl => match us, hl with | [_], _ => rfl) (fun vs H Q E => by
    rintro ⟨v, e, _, _, _, h, _⟩
    omega)
  | n + 1 => by
    have ih := k_law_words_of T n
    refine cal_of (N := n_law_words_of) T.d_law_words_of sc_law_words_of (fun _ _ F => F.bindsN fun _ _ _ _ _ _ us hl => match us, hl with | [_], _ => rfl) (fun vs H Q E h => ?_) (fun f cdv A outer s H vs Q E hr h => ?_)
    · obtain ⟨v, e, rfl, _⟩ := h
      rfl
    · obtain ⟨v, e, rfl, te, hg, hd, q⟩ := h
      have hl := wordsE_len hg
      refine ⟨_, (pss_cons (ps_if (pt_cmpR (op_eq2 hr.units : OpR _ _ (rEq2 K)) (pe_ix (ix_seq : IxR _ (rIx K)) (pv 0) pe_int (fun _ _ => rfl)) pe_str (nomark _)) (pss_cons (ps_if (pt_cmpR op_lt (pe_ix (ix_seq : IxR _ (rIx K)) (pv 0) pe_int (fun _ _ => rfl)) pe_int (nomark _)) (pss_one (ps_ret (pe_lst (pa_cons pe_str (pa_cons (pe_callTy call_strI (by rfl) T.z_str (by decide +kernel) (pa_cons (pe_un un_neg (pe_ix (ix_seq : IxR _ (rIx K)) (pv 0) pe_int (fun _ _ => rfl))) pa_nil)) pa_nil))))) pss_nil) (pss_one (ps_ret (pe_lst (pa_cons (pe_callTy call_strI (by rfl) T.z_str (by decide +kernel) (pa_cons (pe_ix (ix_seq : IxR _ (rIx K)) (pv 0) pe_int (fun _ _ => rfl)) pa_nil)) pa_nil))))) pss_nil) (pss_cons (ps_if (pt_cmpR (op_eq2 hr.units : OpR _ _ (rEq2 K)) (pe_ix (ix_seq : IxR _ (rIx K)) (pv 0) pe_int (fun _ _ => rfl)) pe_str (nomark _)) (pss_one (ps_ret (pe_op op_add3 (pe_lst (pa_cons (pe_ix (ix_seq : IxR _ (rIx K)) (pv 0) pe_int (fun _ _ => rfl)) pa_nil)) (C8.pe_c (k_law_plus_words T) hr (by first | decide | omega) (by rfl) (pa_cons (pe_ix (ix_seq : IxR _ (rIx K)) (pv 0) pe_int (fun _ _ => rfl)) pa_nil))))) pss_nil) (pss_one (ps_ret (pe_op op_add3 (pe_op op_add3 (pe_op op_add3 (pe_lst (pa_cons (pe_ix (ix_seq : IxR _ (rIx K)) (pv 0) pe_int (fun _ _ => rfl)) (pa_cons pe_str pa_nil))) (C8.pe_c ih hr (by first | decide | omega) (by rfl) (pa_cons (pe_ix (ix_seq : IxR _ (rIx K)) (pv 0) pe_int (fun _ _ => rfl)) pa_nil))) (pe_lst (pa_cons pe_str pa_nil))) (C8.pe_c (k_law_plus_words T) hr (by first | decide | omega) (by rfl) (pa_cons (pe_ix (ix_seq : IxR _ (rIx K)) (pv 0) pe_int (fun _ _ => rfl)) pa_nil))))))), ?_⟩
      cases e with
      | num m =>
        obtain ⟨a, rfl, ea⟩ := ex_num te
        have hm : m.natAbs < 10 ^ 10 := hg
        walk_at "ss"
        refine o_ixT (tup_of ea) (atI_nat (j := 0) rfl) ?_
        walk_at "ss"
        refine o_eqS rfl ?_
        walk_at "ss"
        refine iteT ?_
        walk_at "ss"
        refine o_ixT (tup_of ea) (atI_nat (j := 1) rfl) ?_
        walk_at "ss"
        refine ite2 (fun e => ?_) (fun e => ?_)
        · have e := of_decide_eq_true e
          rw [show wordsE (.num m) = [("-" : Str), numS (-m).toNat] from if_pos e] at q
          walk_at "ss"
          refine o_ixT (tup_of ea) (atI_nat (j := 1) rfl) ?_
          walk_at "ss"
          refine b_strI (by omega) ?_
          walk_at "ss"
          refine n_obj (lz (by simp)) fun p2 H2 n2 s2 e2 => ?_
          refine q p2 H2 s2 n2 ?_
          rw [e2, toStr_nat (by omega)]
          rfl
        · have e := of_decide_eq_false (Bool.eq_false_iff.mpr e)
          rw [show wordsE (.num m) = [numS m.toNat] from if_neg e] at q
          walk_at "ss"
          refine o_ixT (tup_of ea) (atI_nat (j := 1) rfl) ?_
          walk_at "ss"
          refine b_strI (by omega) ?_
          walk_at "ss"
          refine n_obj (lz (by simp)) fun p2 H2 n2 s2 e2 => ?_
          refine q p2 H2 s2 n2 ?_
          rw [e2, toStr_nat (by omega)]
          rfl
      | var x p =>
        obtain ⟨a, rfl, ea⟩ := ex_var te
        walk_at "ss"
        refine o_ixT (tup_of ea) (atI_nat (j := 0) rfl) ?_
        walk_at "ss"
        refine o_eqS rfl ?_
        walk_at "ss"
        refine iteF ?_
        walk_at "ss"
        refine o_ixT (tup_of ea) (atI_nat (j := 0) rfl) ?_
        walk_at "ss"
        refine o_eqS rfl ?_
        walk_at "ss"
        refine iteT ?_
        walk_at "ss"
        refine o_ixT (tup_of ea) (atI_nat (j := 1) rfl) ?_
        walk_at "ss"
        refine n_obj (lz (by simp)) fun p1 H1 n1 s1 e1 => ?_
        walk_at "ss"
        refine o_ixT (tup_of (s1 _ _ ea)) (atI_nat (j := 2) rfl) ?_
        walk_at "ss"
        refine ⟨p, rfl, hg.2, fun p2 H2 s2 n2 e2 => ?_⟩
        refine o_addL (s2 _ _ e1) e2 (lz (by rw [List.length_map]; have := wordsE_len hg; show 1 + (plusW p).length ≤ _; have e : (wordsE (.var x p)).length = (plusW p).length + 1 := rfl; omega)) fun p3 H3 n3 s3 e3 => ?_
        exact q p3 H3 ((s1.trans s2).trans s3) ((s1.trans s2).free n3) e3
      | item x i p =>
        obtain ⟨a, u, rfl, ea, ti⟩ := ex_item te
        have hl : ([x, ("[" : Str)] ++ wordsE i ++ [("]" : Str)] ++ plusW p).length ≤ 8 := hl
        rw [List.length_append, List.length_append, List.length_append] at hl
        have hl : 2 + (wordsE i).length + 1 + (plusW p).length ≤ 8 := hl
        walk_at "ss"
        refine o_ixT (tup_of ea) (atI_nat (j := 0) rfl) ?_
        walk_at "ss"
        refine o_eqS rfl ?_
        walk_at "ss"
        refine iteF ?_
        walk_at "ss"
        refine o_ixT (tup_of ea) (atI_nat (j := 0) rfl) ?_
        walk_at "ss"
        refine o_eqS rfl ?_
        walk_at "ss"
        refine iteF ?_
        walk_at "ss"
        refine o_ixT (tup_of ea) (atI_nat (j := 1) rfl) ?_
        walk_at "ss"
        refine n_obj (lz (by simp)) fun p1 H1 n1 s1 e1 => ?_
        walk_at "ss"
        refine o_ixT (tup_of (s1 _ _ ea)) (atI_nat (j := 2) rfl) ?_
        walk_at "ss"
        refine ⟨u, i, rfl, Tp.tk s1.tk ti, hg.2.1.good, by have : dep i + 1 < n + 1 := hd; omega, fun p2 H2 s2 n2 e2 => ?_⟩
        refine o_addL (s2 _ _ e1) e2 (lz (by rw [List.length_map]; show 2 + _ ≤ _; omega)) fun p3 H3 n3 s3 e3 => ?_
        walk_at "ss"
        refine n_obj (lz (by simp)) fun p4 H4 n4 s4 e4 => ?_
        refine o_addL (s4 _ _ e3) e4 (lz (by rw [List.length_append, List.length_map]; show 2 + _ + 1 ≤ _; omega)) fun p5 H5 n5 s5 e5 => ?_
        have s05 := (((s1.trans s2).trans s3).trans s4).trans s5
        walk_at "ss"
        refine o_ixT (tup_of (s05 _ _ ea)) (atI_nat (j := 3) rfl) ?_
        walk_at "ss"
        refine ⟨p, rfl, hg.2.2, fun p6 H6 s6 n6 e6 => ?_⟩
        refine o_addL (s6 _ _ e5) e6 (lz (by rw [List.length_append, List.length_append, List.length_map, List.length_map]; show 2 + _ + 1 + _ ≤ _; omega)) fun p7 H7 n7 s7 e7 => ?_
        refine q p7 H7 ((s05.trans s6).trans s7) ((s05.trans s6).free n7) ?_
        rw [e7]
        show some (HO.lst ([V.str x, V.str "["] ++ (wordsE i).map V.str ++ [V.str "]"] ++ (plusW p).map V.str)) = some (HO.lst (([x, ("[" : Str)] ++ wordsE i ++ [("]" : Str)] ++ plusW p).map V.str))
        rw [List.map_append, List.map_append, List.map_append]
        rfl
def spPlusText : Sp := fun vs H Q _ => ∃ p : Int, vs = [.int p] ∧ p.natAbs < 10 ^ 10 ∧ ∀ H', Same H H' → Q (.str (plusS p)) H'
theorem plus_glue {p : Int} (h : p ≠ 0) : (" " : Str) ++ (if 0 < p then ("+" : Str) else "-") ++ (" " : Str) ++ numS p.natAbs = plusS p := by
  unfold plusS
  rw [if_neg h]
  refine str_ext ?_
  by_cases h2 : 0 < p
  · rw [if_pos h2, if_pos h2, app_tl, app_tl, app_tl, app_tl, show p.toNat = p.natAbs by omega]
    rfl
  · rw [if_neg h2, if_neg h2, app_tl, app_tl, app_tl, app_tl, show (-p).toNat = p.natAbs by omega]
    rfl
theorem k_law_plus_text (T : Tx K mg) : C8.Cal P w K mg base 1 "_law_plus_text" spPlusText [] := by
  refine cal_of (N := n_law_plus_text) T.d_law_plus_text sc_law_plus_text (fun _ _ F => F.bindsN fun _ _ _ _ _ _ us hl => match us, hl with | [_], _ => rfl) (fun vs H Q E h => ?_) (fun f cdv A outer s H vs Q E hr h => ?_)
  · obtain ⟨p, rfl, _⟩ := h
    rfl
  · obtain ⟨p, rfl, hp, q⟩ := h
    have hl := plusS_len hp
    refine ⟨_, (pss_cons (ps_if (pt_cmpR (op_eq2 hr.units : OpR _ _ (rEq2 K)) (pv 0) pe_int (nomark _)) (pss_one (ps_ret pe_str)) pss_nil) (pss_one (ps_ret (pe_op op_add3 (pe_op op_add3 (pe_op op_add3 pe_str (pe_ix (ix_seq : IxR _ (rIx K)) (pe_lst (pa_cons pe_str (pa_cons pe_str pa_nil))) (pe_callTy call_int2 (by rfl) T.z_int (by decide +kernel) (pa_cons (pe_cmpR op_gt (pv 0) pe_int (nomark _)) pa_nil)) (fun _ _ => rfl))) pe_str) (pe_callTy call_strI (by rfl) T.z_str (by decide +kernel) (pa_cons (pe_callB call_abs2 (by rfl) T.z_abs (by decide +kernel) (pa_cons (pv 0) pa_nil)) pa_nil)))))), ?_⟩
    walk_at "ss"
    refine o_eqS rfl ?_
    walk_at "ss"
    refine ite2 (fun e => ?_) (fun e => ?_)
    · have e := V.int.inj (of_decide_eq_true e)
      walk_at "ss"
      subst e
      exact q H (Same.refl H)
    · have e : p ≠ 0 := fun z => e (by rw [z]; exact decide_eq_true rfl)
      have pg := plus_glue e
      walk_at "ss"
      refine n_obj (lz (by simp)) fun p1 H1 n1 s1 e1 => ?_
      walk_at "ss"
      have hsg : atI [V.str "-", V.str "+"] (if decide (0 < p) = true then 1 else 0) = some (.str (if 0 < p then "+" else "-")) := by
        by_cases h : 0 < p
        · rw [decide_eq_true h, if_pos rfl, if_pos h]
          rfl
        · rw [decide_eq_false h, if_neg Bool.false_ne_true, if_neg h]
          rfl
      have l1 : (if 0 < p then ("+" : Str) else "-").length = 1 := by
        split <;> rfl
      refine o_ixL (lst_of e1) hsg ?_
      refine o_addS (by rw [l1]; decide +kernel) ?_
      walk_at "ss"
      refine o_addS (by rw [app_len, l1]; decide +kernel) ?_
      walk_at "ss"
      refine b_strI (by split <;> omega) ?_
      rw [abs_str]
      refine o_addS (lz (by rw [← app_len, pg]; omega)) ?_
      rw [pg]
      exact q H1 s1
def spLText (n : Nat) : Sp := fun vs H Q _ => ∃ (v : V) (e : Ex), vs = [v] ∧ Tp H v e.d ∧ Good e ∧ dep e < n ∧ ∀ H', Same H H' → Q (.str (textE e)) H'
theorem k_law_text (T : Tx K mg) : ∀ n : Nat, C8.Cal P w K mg base (n + 1) "_law_text" (spLText n) []
  | 0 => cal_never (ps := ["expression"]) T.d_law_text (fun _ _ F => F.bindsN fun _ _ _ _ _ _ us hl => match us, hl with | [_], _ => rfl) (fun vs H Q E => by
    rintro ⟨v, e, _, _, _, h, _⟩
    omega)
  | n + 1 => by
    have ih := k_law_text T n
    refine cal_of (N := n_law_text) T.d_law_text sc_law_text (fun _ _ F => F.bindsN fun _ _ _ _ _ _ us hl => match us, hl with | [_], _ => rfl) (fun vs H Q E h => ?_) (fun f cdv A outer s H vs Q E hr h => ?_)
    · obtain ⟨v, e, rfl, _⟩ := h
      rfl
    · obtain ⟨v, e, rfl, te, hg, hd, q⟩ := h
      have hl := good_len hg
      refine ⟨_, (pss_cons (ps_if (pt_cmpR (op_eq2 hr.units : OpR _ _ (rEq2 K)) (pe_ix (ix_seq : IxR _ (rIx K)) (pv 0) pe_int (fun _ _ => rfl)) pe_str (nomark _)) (pss_one (ps_ret (pe_callTy call_strI (by rfl) T.z_str (by decide +kernel) (pa_cons (pe_ix (ix_seq : IxR _ (rIx K)) (pv 0) pe_int (fun _ _ => rfl)) pa_nil)))) pss_nil) (pss_cons (ps_if (pt_cmpR (op_eq2 hr.units : OpR _ _ (rEq2 K)) (pe_ix (ix_seq : IxR _ (rIx K)) (pv 0) pe_int (fun _ _ => rfl)) pe_str (nomark _)) (pss_one (ps_ret (pe_op op_add3 (pe_ix (ix_seq : IxR _ (rIx K)) (pv 0) pe_int (fun _ _ => rfl)) (C8.pe_c (k_law_plus_text T) hr (by first | decide | omega) (by rfl) (pa_cons (pe_ix (ix_seq : IxR _ (rIx K)) (pv 0) pe_int (fun _ _ => rfl)) pa_nil))))) pss_nil) (pss_one (ps_ret (pe_op op_add3 (pe_op op_add3 (pe_op op_add3 (pe_op op_add3 (pe_ix (ix_seq : IxR _ (rIx K)) (pv 0) pe_int (fun _ _ => rfl)) pe_str) (C8.pe_c ih hr (by first | decide | omega) (by rfl) (pa_cons (pe_ix (ix_seq : IxR _ (rIx K)) (pv 0) pe_int (fun _ _ => rfl)) pa_nil))) pe_str) (C8.pe_c (k_law_plus_text T) hr (by first | decide | omega) (by rfl) (pa_cons (pe_ix (ix_seq : IxR _ (rIx K)) (pv 0) pe_int (fun _ _ => rfl)) pa_nil))))))), ?_⟩
      cases e with
      | num m =>
        obtain ⟨a, rfl, ea⟩ := ex_num te
        have hm : m.natAbs < 10 ^ 10 := hg
        walk_at "ss"
        refine o_ixT (tup_of ea) (atI_nat (j := 0) rfl) ?_
        walk_at "ss"
        refine o_eqS rfl ?_
        walk_at "ss"
        refine iteT ?_
        walk_at "ss"
        refine o_ixT (tup_of ea) (atI_nat (j := 1) rfl) ?_
        walk_at "ss"
        refine b_strI (by omega) ?_
        exact q H (Same.refl H)
      | var x p =>
        obtain ⟨a, rfl, ea⟩ := ex_var te
        walk_at "ss"
        refine o_ixT (tup_of ea) (atI_nat (j := 0) rfl) ?_
        walk_at "ss"
        refine o_eqS rfl ?_
        walk_at "ss"
        refine iteF ?_
        walk_at "ss"
        refine o_ixT (tup_of ea) (atI_nat (j := 0) rfl) ?_
        walk_at "ss"
        refine o_eqS rfl ?_
        walk_at "ss"
        refine iteT ?_
        walk_at "ss"
        refine o_ixT (tup_of ea) (atI_nat (j := 1) rfl) ?_
        walk_at "ss"
        refine o_ixT (tup_of ea) (atI_nat (j := 2) rfl) ?_
        walk_at "ss"
        refine ⟨p, rfl, hg.2, fun H1 s1 => ?_⟩
        refine o_addS (lz (by rw [← app_len]; exact Nat.le_trans hl (by decide))) ?_
        exact q H1 s1
      | item x i p =>
        obtain ⟨a, u, rfl, ea, ti⟩ := ex_item te
        have li := plain_len hg.2.1
        have lp := plusS_len hg.2.2
        have lx := (name_parts hg.1).2.1
        walk_at "ss"
        refine o_ixT (tup_of ea) (atI_nat (j := 0) rfl) ?_
        walk_at "ss"
        refine o_eqS rfl ?_
        walk_at "ss"
        refine iteF ?_
        walk_at "ss"
        refine o_ixT (tup_of ea) (atI_nat (j := 0) rfl) ?_
        walk_at "ss"
        refine o_eqS rfl ?_
        walk_at "ss"
        refine iteF ?_
        walk_at "ss"
        refine o_ixT (tup_of ea) (atI_nat (j := 1) rfl) ?_
        walk_at "ss"
        refine o_addS (lz (by show _ + 1 ≤ _; omega)) ?_
        walk_at "ss"
        refine o_ixT (tup_of ea) (atI_nat (j := 2) rfl) ?_
        walk_at "ss"
        refine ⟨u, i, rfl, ti, hg.2.1.good, by have : dep i + 1 < n + 1 := hd; omega, fun H1 s1 => ?_⟩
        refine o_addS (lz (by rw [app_len]; show _ + 1 + _ ≤ _; omega)) ?_
        walk_at "ss"
        refine o_addS (lz (by rw [app_len, app_len]; show _ + 1 + _ + 1 ≤ _; omega)) ?_
        walk_at "ss"
        refine o_ixT (tup_of (s1 _ _ ea)) (atI_nat (j := 3) rfl) ?_
        walk_at "ss"
        refine ⟨p, rfl, hg.2.2, fun H2 s2 => ?_⟩
        refine o_addS (lz (by rw [app_len, app_len, app_len]; show _ + 1 + _ + 1 + _ ≤ _; omega)) ?_
        exact q H2 (s1.trans s2)
/-- whether two words would run together -/
def joinB (x y : Str) : Bool := match (tl x).getLast?, (tl y).head? with
  | some a, some c => decide (a ∈ tl LET ∧ c ∈ tl LET) || decide (a ∈ tl DIG ∧ c ∈ tl DIG) || decide (a ∈ EQS ∧ c ∈ EQS)
  | _, _ => false
theorem joinB_iff {x y : Str} : joinB x y = true ↔ joinsLH (tl x) (tl y) := by
  unfold joinB joinsLH
  cases h1 : (tl x).getLast? with
  | none => simp
  | some a =>
    cases h2 : (tl y).head? with
    | none => simp
    | some c =>
      simp only [Bool.or_eq_true, decide_eq_true_eq]
      constructor
      · intro h
        exact ⟨a, c, rfl, rfl, by unfold joinsC; rcases h with (h | h) | h <;> simp [h]⟩
      · rintro ⟨a', c', e1, e2, h⟩
        cases e1
        cases e2
        rcases h with h | h | h
        · exact .inl (.inl h)
        · exact .inl (.inr h)
        · exact .inr h
theorem atI_lastS {z : Str} {c : Nat} (h : (tl z).getLast? = some c) : atI z.cps.toList (-1) = some c := by
  have h : z.cps.toList.getLast? = some c := h
  obtain ⟨r, e⟩ : ∃ r, z.cps.toList = r ++ [c] := by
    obtain ⟨r, e⟩ := List.getLast?_eq_some_iff.mp h
    exact ⟨r, e⟩
  rw [e]
  exact atI_last _ _
theorem atI_headS {z : Str} {c : Nat} (h : (tl z).head? = some c) : atI z.cps.toList (0 : Int) = some c := by
  have h : z.cps.toList.head? = some c := h
  rw [List.head?_eq_getElem?] at h
  exact atI_nat (j := 0) h
def spJoins : Sp := fun vs H Q _ => ∃ (x y : Str), vs = [.str x, .str y] ∧ 1 ≤ x.length ∧ 1 ≤ y.length ∧ x.length ≤ 1000 ∧ y.length ≤ 1000 ∧ Q (.bl (joinB x y)) H
theorem eqs_mem : ∀ c, c ∈ (("<>=!" : Str)).cps.toList ↔ c ∈ EQS := by
  have h : (("<>=!" : Str)).cps.toList = [60, 62, 61, 33] := by decide +kernel
  intro c
  rw [h]
theorem k_law_joins (T : Tx K mg) : C8.Cal P w K mg base 2 "_law_joins" spJoins [] := by
  refine cal_of (N := n_law_joins) T.d_law_joins sc_law_joins (fun _ _ F => F.bindsN fun _ _ _ _ _ _ us hl => match us, hl with | [_, _], _ => rfl) (fun vs H Q E h => ?_) (fun f cdv A outer s H vs Q E hr h => ?_)
  · obtain ⟨x, y, rfl, _⟩ := h
    rfl
  · obtain ⟨x, y, rfl, lx, ly, lx2, ly2, q⟩ := h
    obtain ⟨a, ha⟩ : ∃ a, (tl x).getLast? = some a := by
      obtain ⟨c, r, e⟩ := List.exists_cons_of_ne_nil (ne_of_len lx)
      rw [e, List.getLast?_cons]
      exact ⟨_, rfl⟩
    obtain ⟨c, hc⟩ : ∃ c, (tl y).head? = some c := by
      obtain ⟨c, r, e⟩ := List.exists_cons_of_ne_nil (ne_of_len ly)
      rw [e]
      exact ⟨_, rfl⟩
    have ga := atI_lastS ha
    have gc := atI_headS hc
    have zx := lz lx2
    have zy := lz ly2
    have q : Q (.bl (decide (a ∈ tl LET ∧ c ∈ tl LET) || decide (a ∈ tl DIG ∧ c ∈ tl DIG) || decide (a ∈ EQS ∧ c ∈ EQS))) H := by
      have e : joinB x y = (decide (a ∈ tl LET ∧ c ∈ tl LET) || decide (a ∈ tl DIG ∧ c ∈ tl DIG) || decide (a ∈ EQS ∧ c ∈ EQS)) := by
        unfold joinB
        rw [ha, hc]
      rw [← e]
      exact q
    refine ⟨_, (pss_cons (ps_if (PW.pt (pw_and (pt_cmpR (op_in2 : OpR _ _ (rIn2 K)) (pe_ix (ix_seq : IxR _ (rIx K)) (pv 0) (pe_un un_neg pe_int) (fun _ _ => rfl)) (pe_c0 (k_law_letters T) hr (by first | decide | omega) (by rfl)) (by rfl)) (pw_and1 (pt_cmpR (op_in2 : OpR _ _ (rIn2 K)) (pe_ix (ix_seq : IxR _ (rIx K)) (pv 1) pe_int (fun _ _ => rfl)) (pe_c0 (k_law_letters T) hr (by first | decide | omega) (by rfl)) (by rfl))))) (pss_one (ps_ret pe_bl)) pss_nil) (pss_cons (ps_if (PW.pt (pw_and (pt_cmpR (op_in2 : OpR _ _ (rIn2 K)) (pe_ix (ix_seq : IxR _ (rIx K)) (pv 0) (pe_un un_neg pe_int) (fun _ _ => rfl)) pe_str (by rfl)) (pw_and1 (pt_cmpR (op_in2 : OpR _ _ (rIn2 K)) (pe_ix (ix_seq : IxR _ (rIx K)) (pv 1) pe_int (fun _ _ => rfl)) pe_str (by rfl))))) (pss_one (ps_ret pe_bl)) pss_nil) (pss_one (ps_ret (pe_and (pe_cmpR (op_in2 : OpR _ _ (rIn2 K)) (pe_ix (ix_seq : IxR _ (rIx K)) (pv 0) (pe_un un_neg pe_int) (fun _ _ => rfl)) pe_str (by rfl)) (pe_one (pe_cmpR (op_in2 : OpR _ _ (rIn2 K)) (pe_ix (ix_seq : IxR _ (rIx K)) (pv 1) pe_int (fun _ _ => rfl)) pe_str (by rfl)))))))), ?_⟩
    walk_at "ss"
    refine o_ixS zx ga ?_
    walk_at "ss"
    refine ⟨rfl, ?_⟩
    walk_at "ss"
    by_cases h1 : a ∈ tl LET ∧ c ∈ tl LET
    · rw [decide_eq_true h1.1]
      rw [decide_eq_true h1] at q
      refine iteT ?_
      walk_at "ss"
      refine o_ixS zy gc ?_
      walk_at "ss"
      refine ⟨rfl, ?_⟩
      walk_at "ss"
      rw [decide_eq_true h1.2]
      refine iteT ?_
      walk_at "ss"
      exact q
    · rw [decide_eq_false h1, Bool.false_or] at q
      -- behind the first test
      have second : ∀ Q' : VK, Q' = Q → True := fun _ _ => trivial
      by_cases h2 : a ∈ tl LET
      · have h3 : c ∉ tl LET := fun h => h1 ⟨h2, h⟩
        have h4 : a ∉ tl DIG := fun h => (dig32 a h).2 h2
        have h5 : a ∉ EQS := fun h => (eqs32 a h).2.1 h2
        rw [decide_eq_false (fun h => h4 h.1), decide_eq_false (fun h => h5 h.1)] at q
        rw [decide_eq_true h2]
        refine iteT ?_
        walk_at "ss"
        refine o_ixS zy gc ?_
        walk_at "ss"
        refine ⟨rfl, ?_⟩
        walk_at "ss"
        rw [decide_eq_false h3]
        refine iteF ?_
        walk_at "ss"
        refine o_ixS zx ga ?_
        walk_at "ss"
        rw [decide_eq_false h4]
        refine iteF ?_
        refine iteF ?_
        walk_at "ss"
        refine o_ixS zx ga ?_
        walk_at "ss"
        rw [decide_eq_false (fun h => h5 ((eqs_mem a).mp h))]
        refine iteF ?_
        exact q
      · rw [decide_eq_false h2]
        refine iteF ?_
        refine iteF ?_
        walk_at "ss"
        refine o_ixS zx ga ?_
        walk_at "ss"
        by_cases h4 : a ∈ tl DIG
        · have h5 : a ∉ EQS := fun h => (eqs32 a h).2.2 h4
          rw [decide_eq_false (p := a ∈ EQS ∧ c ∈ EQS) (fun h => h5 h.1), Bool.or_false] at q
          rw [decide_eq_true h4]
          refine iteT ?_
          walk_at "ss"
          refine o_ixS zy gc ?_
          walk_at "ss"
          by_cases h6 : c ∈ tl DIG
          · rw [decide_eq_true (p := a ∈ tl DIG ∧ c ∈ tl DIG) ⟨h4, h6⟩] at q
            rw [decide_eq_true h6]
            refine iteT ?_
            walk_at "ss"
            exact q
          · rw [decide_eq_false (p := a ∈ tl DIG ∧ c ∈ tl DIG) (fun h => h6 h.2)] at q
            rw [decide_eq_false h6]
            refine iteF ?_
            walk_at "ss"
            refine o_ixS zx ga ?_
            walk_at "ss"
            rw [decide_eq_false (fun h => h5 ((eqs_mem a).mp h))]
            refine iteF ?_
            exact q
        · rw [decide_eq_false (p := a ∈ tl DIG ∧ c ∈ tl DIG) (fun h => h4 h.1), Bool.false_or] at q
          rw [decide_eq_false h4]
          refine iteF ?_
          refine iteF ?_
          walk_at "ss"
          refine o_ixS zx ga ?_
          walk_at "ss"
          by_cases h5 : a ∈ EQS
          · rw [decide_eq_true ((eqs_mem a).mpr h5)]
            refine iteT ?_
            walk_at "ss"
            refine o_ixS zy gc ?_
            walk_at "ss"
            rw [show decide (a ∈ EQS ∧ c ∈ EQS) = decide (c ∈ (("<>=!" : Str)).cps.toList) from decide_eq_decide.mpr ⟨fun h => (eqs_mem c).mpr h.2, fun h => ⟨h5, (eqs_mem c).mp h⟩⟩] at q
            exact q
          · rw [decide_eq_false (fun h => h5 ((eqs_mem a).mp h))]
            rw [decide_eq_false (fun h => h5 h.1)] at q
            refine iteF ?_
            exact q
end
end K02
namespace K02
open PySem PySem.Spec PyProof.Rows L2 Wy WM W3 W4 W5

/-- words that a row may have -/
structure WOk (n : Nat) (ws : List Str) : Prop where
  len : ws.length ≤ n
  tok : ∀ y ∈ ws, Tok y
  short : ∀ y ∈ ws, y.length ≤ 13
theorem WOk.small {n : Nat} {ws : List Str} (h : WOk n ws) (hn : n ≤ 10000) : SmallW ws := ⟨Nat.le_trans h.len hn, fun y hy => Nat.le_trans (h.short y hy) (by decide)⟩
theorem sp_tl (k : Int) : tl (repS (" " : Str) k) = List.replicate k.toNat 32 := by
  have e : (Str.ofString " ").cps.toList = [32] := by decide +kernel
  show (List.replicate k.toNat (Str.ofString " ").cps.toList).flatten.toArray.toList = _
  rw [e]
  simp
theorem tok_pos {y : Str} (h : Tok y) : 1 ≤ y.length := by
  obtain ⟨c, r, e, _⟩ := h.ne
  rw [str_len, show y.cps.toList = c :: r from e, List.length_cons]
  omega
theorem glue_snoc : ∀ {l : List (List Nat × Nat)} {w v : List Nat} {n m : Nat}, GlueOk (l ++ [(w, n)]) → (0 < n ∨ ¬ joinsLH w v) → IsTok v → GlueOk (l ++ [(w, n)] ++ [(v, m)])
  | [], w, v, n, m, h1, h2, h3 => ⟨h1, h2, h3⟩
  | [(u, k)], w, v, n, m, h1, h2, h3 => ⟨h1.1, h1.2.1, h1.2.2, h2, h3⟩
  | (u, k) :: (u2, k2) :: r, w, v, n, m, h1, h2, h3 => ⟨h1.1, h1.2.1, glue_snoc (l := (u2, k2) :: r) h1.2.2 h2 h3⟩
theorem cut_take (ws : List Str) (j : Nat) : cutV (ws.map V.str) none (some (j : Int)) = (ws.take j).map V.str := by
  unfold cutV
  rw [HT.sIx_none, HT.sIx_nat, List.drop_zero, Nat.sub_zero, List.map_take, List.length_map]
  by_cases h : j ≤ ws.length
  · rw [Nat.min_eq_left h]
  · rw [Nat.min_eq_right (by omega), List.take_of_length_le (by simp), List.take_of_length_le (by rw [List.length_map]; omega)]
theorem cut_drop (ws : List Str) (j : Nat) : cutV (ws.map V.str) (some (j : Int)) none = (ws.drop j).map V.str := by
  unfold cutV
  rw [HT.sIx_none, HT.sIx_nat, List.length_map, List.map_drop]
  by_cases h : j ≤ ws.length
  · rw [Nat.min_eq_left h, List.take_of_length_le (by rw [List.length_drop, List.length_map]; exact Nat.le_refl _)]
  · rw [Nat.min_eq_right (by omega), Nat.sub_self, List.take_zero, List.drop_of_length_le (by rw [List.length_map]; omega)]
section
variable {P : Program} {w : World} {K : PySem.W.Frag} {mg : Str → Option Value} {base : Heap}
def spSpaced : Sp := fun vs H Q _ => ∃ (h d p : Addr) (ws : List Str), vs = [.ref h, .ref p] ∧ HandAt H h d ∧ H p = some (.lst (ws.map V.str)) ∧ WOk 50 ws ∧
  ∀ z H', wordsW z = some ws → (z : Str).length ≤ 5000 → Keep h H H' → HandAt H' h d → Q (.str z) H'
theorem list_ne_hand {H : Hp} {h d p : Addr} {ws : List Str} (hh : HandAt H h d) (e : H p = some (.lst (ws.map V.str))) : p ≠ h := by
  intro z
  subst z
  obtain ⟨n, ds, h1, _, _⟩ := hh
  rw [h1] at e
  cases ws <;> cases e
theorem k_law_spaced (T : Tx K mg) : C8.Cal P w K mg base 3 "_law_spaced" spSpaced [] := by
  refine cal_of (N := n_law_spaced) T.d_law_spaced sc_law_spaced (fun _ _ F => F.bindsN fun _ _ _ _ _ _ us hl => match us, hl with | [_, _], _ => rfl) (fun vs H Q E h => ?_) (fun f cdv A outer s H vs Q E hr h => ?_)
  · obtain ⟨a, d, p, ws, rfl, _⟩ := h
    rfl
  · obtain ⟨a, d, p, ws, rfl, hh, e, wo, q⟩ := h
    have pa := list_ne_hand hh e
    refine ⟨_, (pss_cons (ps_asg (pe_op op_mul2 pe_str (pe_op op_fdiv (C8.pe_c (k_law_take T) hr (by first | decide | omega) (by rfl) (pa_cons (pv 0) (pa_cons pe_int pa_nil))) pe_int)) (pg_name (i := 2) sc_law_spaced.nd rfl (Or.inl rfl))) (pss_cons (ps_for PassesOwn.never rfl (pi_range1 (by rfl) T.z_range (pa_cons (pe_callB (call_len2 : CallR _ _ (rLn K)) (by rfl) T.z_len (by decide +kernel) (pa_cons (pv 1) pa_nil)) pa_nil)) (pg_name (i := 3) sc_law_spaced.nd rfl (Or.inl rfl)) (pss_cons (ps_asg (pe_op op_add3 (pv 2) (pe_ix (ix_seq : IxR _ (rIx K)) (pv 1) (pv 3) (fun _ _ => rfl))) (pg_name (i := 2) sc_law_spaced.nd rfl (Or.inl rfl))) (pss_cons (ps_asg (pe_ix (ix_seq : IxR _ (rIx K)) (pe_lst (pa_cons pe_int (pa_cons pe_int (pa_cons pe_int (pa_cons pe_int (pa_cons pe_int (pa_cons (pe_op op_add3 pe_int (C8.pe_c (k_law_take T) hr (by first | decide | omega) (by rfl) (pa_cons (pv 0) (pa_cons pe_int pa_nil)))) pa_nil))))))) (C8.pe_c (k_law_take T) hr (by first | decide | omega) (by rfl) (pa_cons (pv 0) (pa_cons pe_int pa_nil))) (fun _ _ => rfl)) (pg_name (i := 4) sc_law_spaced.nd rfl (Or.inl rfl))) (C8.pss_cut (ps_if (PW.pt (pw_and (pt_cmpR (op_eq2 hr.units : OpR _ _ (rEq2 K)) (pv 4) pe_int (nomark _)) (pw_and (pt_cmpR op_lt (pe_op op_add3 (pv 3) pe_int) (pe_callB (call_len2 : CallR _ _ (rLn K)) (by rfl) T.z_len (by decide +kernel) (pa_cons (pv 1) pa_nil)) (nomark _)) (pw_and1 (pt_tr (C8.pe_c (k_law_joins T) hr (by first | decide | omega) (by rfl) (pa_cons (pe_ix (ix_seq : IxR _ (rIx K)) (pv 1) (pv 3) (fun _ _ => rfl)) (pa_cons (pe_ix (ix_seq : IxR _ (rIx K)) (pv 1) (pe_op op_add3 (pv 3) pe_int) (fun _ _ => rfl)) pa_nil))) : PT _ _ (tTr K _)))))) (pss_one (ps_asg pe_int (pg_name (i := 4) sc_law_spaced.nd rfl (Or.inl rfl)))) pss_nil) (pss_one (ps_asg (pe_op op_add3 (pv 2) (pe_op op_mul2 pe_str (pv 4))) (pg_name (i := 2) sc_law_spaced.nd rfl (Or.inl rfl)))))))) (pss_one (ps_ret (pv 2))))), ?_⟩
    walk_at "ss"
    refine ⟨a, d, _, rfl, hh, by omega, fun r H1 r0 r1 c1 hh1 => ?_⟩
    walk_at "ss"
    refine o_mulS (by omega) (by omega) (by decide +kernel) ?_
    walk_at "ss"
    have e1 := c1.at e pa
    refine b_lenL (lst_of e1) ?_
    walk_at "ss"
    rw [List.length_map]
    have hwl := wo.len
    refine k_r1 (by omega) (by omega) ?_
    rw [Int.toNat_natCast]
    refine f_range (fun i σ H' => HandAt H' a d ∧ Keep a H H' ∧ ∃ (z : Str) (k : Nat) (l : List (List Nat × Nat)) (x y : Option V), σ = [some (.ref a), some (.ref p), some (.str z), x, y] ∧ z.length ≤ 2 + i * 20 ∧ tl z = List.replicate k 32 ++ glue l ∧ l.map (·.1) = (ws.take i).map tl ∧ GlueOk l ∧ ∀ hi : i < ws.length, ∀ m, GlueOk (l ++ [(tl ws[i], m)]))
      ⟨hh1, c1.keep, _, (r / 3).toNat, [], _, _, rfl, ?_, ?_, rfl, trivial, fun hi m => show GlueOk [(tl ws[0], m)] from wo.tok _ (List.getElem_mem hi)⟩ (fun i σ H2 hi hW => ?_) (fun σ H2 hW => ?_)
    · rw [repS_len]
      show _ * 1 ≤ _
      omega
    · show _ = List.replicate (r / 3).toNat 32 ++ []
      rw [List.append_nil]
      exact sp_tl _
    · obtain ⟨hh2, k2, z, k, l, x, y, rfl, lz2, ez, el, gl, gn⟩ := hW
      have e2 := k2 p _ pa e
      have ti := wo.tok _ (List.getElem_mem hi)
      have li := wo.short _ (List.getElem_mem hi)
      have hi50 : i < 50 := by omega
      walk_at "ss"
      refine o_ixL (lst_of e2) (atI_of (j := i) (v := .str ws[i]) (by omega) (by rw [List.getElem?_map, List.getElem?_eq_getElem hi]; rfl)) ?_
      refine o_addS (Nat.le_of_lt (small1000' (by omega))) ?_
      walk_at "ss"
      refine ⟨a, d, _, rfl, hh2, by omega, fun r2 H3 r3 r4 c3 hh3 => ?_⟩
      walk_at "ss"
      refine n_obj (lz (by simp)) fun p4 H4 n4 s4 e4 => ?_
      have nn := hh3.new n4
      walk_at "ss"
      refine ⟨a, d, _, rfl, hh3.same s4, by omega, fun r5 H5 r6 r7 c5 hh5 => ?_⟩
      obtain ⟨j, hj⟩ : ∃ j : Nat, r5 = (j : Int) := ⟨r5.toNat, by omega⟩
      subst hj
      obtain ⟨n, g, n1, n2⟩ : ∃ n : Nat, [V.int 0, V.int 0, V.int 1, V.int 1, V.int 2, V.int (2 + r2)][j]? = some (.int n) ∧ 0 ≤ n ∧ n ≤ 6 := by
        have hj : j < 6 := by omega
        match j, hj with
        | 0, _ => exact ⟨0, rfl, by omega, by omega⟩
        | 1, _ => exact ⟨0, rfl, by omega, by omega⟩
        | 2, _ => exact ⟨1, rfl, by omega, by omega⟩
        | 3, _ => exact ⟨1, rfl, by omega, by omega⟩
        | 4, _ => exact ⟨2, rfl, by omega, by omega⟩
        | 5, _ => exact ⟨(2 + r2).toNat, by rw [Int.toNat_of_nonneg (by omega)]; rfl, by omega, by omega⟩
      refine o_ixL (lst_of (c5.at e4 nn.1.symm)) (atI_nat g) ?_
      have k5 : Keep a H H5 := ((k2.trans c3.keep).trans s4.keep).trans c5.keep
      have e5 := k5 p _ pa e
      walk_at "ss"
      refine s_cut (fun σ H' => Same H5 H' ∧ ∃ m : Nat, m ≤ 6 ∧ (∀ h2 : i + 1 < ws.length, 0 < m ∨ ¬ joinsLH (tl ws[i]) (tl ws[i + 1])) ∧ σ = [some (.ref a), some (.ref p), some (.str (z ++ ws[i])), some (.int (0 + (i : Int))), some (.int m)]) ?_ (fun σ' H6 hM => ?_)
      · walk_at "ss"
        refine o_eqS rfl ?_
        walk_at "ss"
        by_cases hn : n = 0
        · rw [show decide (V.int (n : Int) = V.int 0) = true from decide_eq_true (by rw [hn]; rfl)]
          refine iteT ?_
          walk_at "ss"
          refine b_lenL (lst_of e5) ?_
          walk_at "ss"
          rw [List.length_map]
          refine ite2 (fun e => ?_) (fun e => ?_)
          · have e := of_decide_eq_true e
            have hi2 : i + 1 < ws.length := by omega
            walk_at "ss"
            refine o_ixL (lst_of e5) (atI_of (j := i) (v := .str ws[i]) (by omega) (by rw [List.getElem?_map, List.getElem?_eq_getElem hi]; rfl)) ?_
            walk_at "ss"
            refine o_ixL (lst_of e5) (atI_of (j := i + 1) (v := .str ws[i + 1]) (by omega) (by rw [List.getElem?_map, List.getElem?_eq_getElem hi2]; rfl)) ?_
            walk_at "ss"
            refine ⟨ws[i], ws[i + 1], rfl, tok_pos ti, tok_pos (wo.tok _ (List.getElem_mem hi2)), by omega, by have := wo.short _ (List.getElem_mem hi2); omega, ?_⟩
            walk_at "ss"
            cases hj : joinB ws[i] ws[i + 1] with
            | true =>
              refine iteT ?_
              walk_at "ss"
              exact ⟨Same.refl _, 1, by omega, fun _ => .inl (by omega), rfl⟩
            | false =>
              refine iteF ?_
              walk_at "ss"
              exact ⟨Same.refl _, n, by omega, fun h2 => .inr (fun h => by rw [joinB_iff.mpr h] at hj; cases hj), rfl⟩
          · have e := of_decide_eq_false (Bool.eq_false_iff.mpr e)
            refine iteF ?_
            walk_at "ss"
            exact ⟨Same.refl _, n, by omega, fun h2 => by omega, rfl⟩
        · rw [show decide (V.int (n : Int) = V.int 0) = false from decide_eq_false (fun h => hn (by have := V.int.inj h; omega))]
          refine iteF ?_
          refine iteF ?_
          walk_at "ss"
          exact ⟨Same.refl _, n, by omega, fun h2 => .inl (by omega), rfl⟩
      · obtain ⟨s6, m, hm, hj, rfl⟩ := hM
        walk_at "ss"
        refine o_mulS (by omega) (by omega) (by decide +kernel) ?_
        have lr : (repS (" " : Str) (m : Int)).length = m := by
          rw [repS_len]
          show _ * 1 = _
          omega
        have er : tl (repS (" " : Str) (m : Int)) = List.replicate m 32 := sp_tl _
        refine o_addS (Nat.le_of_lt (small1000' (by rw [app_len]; have : (repS (Str.ofString " ") (m : Int)).length = m := lr; omega))) ?_
        walk_at "ss"
        refine ⟨hh5.same s6, k5.trans s6.keep, _, k, l ++ [(tl ws[i], m)], _, _, rfl, ?_, ?_, ?_, gn hi m, fun hi2 m2 => ?_⟩
        · rw [app_len, app_len]
          have : (repS (Str.ofString " ") (m : Int)).length = m := lr
          omega
        · rw [tl_app, tl_app, ez, glue_app]
          have : tl (repS (Str.ofString " ") (m : Int)) = List.replicate m 32 := er
          rw [this]
          show _ = _ ++ (glue l ++ (tl ws[i] ++ (List.replicate m 32 ++ [])))
          simp
        · rw [List.map_append, el, List.take_add_one, List.getElem?_eq_getElem hi, List.map_append]
          rfl
        · exact glue_snoc (gn hi m) (hj hi2) (wo.tok _ (List.getElem_mem hi2))
    · obtain ⟨hh2, k2, z, k, l, x, y, rfl, lz2, ez, el, gl, gn⟩ := hW
      walk_at "ss"
      refine q z H2 ?_ (by omega) k2 hh2
      rw [words_glue gl ez]
      congr 1
      rw [List.take_length] at el
      have e3 : l.map (fun p => mkS p.1) = (l.map (·.1)).map mkS := by rw [List.map_map]; rfl
      rw [e3, el, List.map_map]
      have e4 : (mkS ∘ tl) = id := funext fun z => tl_mkS z
      rw [e4, List.map_id]
def oddB (x : V) : Bool := match x with
  | .str y => decide (y.length ≤ 13) && ((decide (y.length ≥ 1) && (tl y).all fun c => decide (c ∈ tl LET)) || (decide (y.length ≥ 1) && (tl y).all fun c => decide (c ∈ tl DIG)) || (match tl y with | [c] => decide (c ∈ tl SHO) | [c, e] => decide (c ∈ EQS) && decide (e = 61) | _ => false))
  | _ => false
theorem odd_item {xs : List V} (h : xs.all oddB = true) {j : Nat} (hj : j < xs.length) : ∃ y : Str, xs[j]? = some (.str y) ∧ y.length ≤ 13 ∧ Tok y := by
  have h1 := List.all_eq_true.mp h xs[j] (List.getElem_mem hj)
  cases e : xs[j] with
  | str y =>
    rw [e] at h1
    obtain ⟨h2, h3⟩ := Bool.and_eq_true_iff.mp h1
    refine ⟨y, by rw [List.getElem?_eq_getElem hj, e], of_decide_eq_true h2, ?_⟩
    rcases Bool.or_eq_true_iff.mp h3 with h3 | h3
    · rcases Bool.or_eq_true_iff.mp h3 with h3 | h3
      · obtain ⟨h4, h5⟩ := Bool.and_eq_true_iff.mp h3
        exact tok_let (ne_of_len (of_decide_eq_true h4)) fun c hc => of_decide_eq_true (List.all_eq_true.mp h5 c hc)
      · obtain ⟨h4, h5⟩ := Bool.and_eq_true_iff.mp h3
        exact tok_dig (ne_of_len (of_decide_eq_true h4)) fun c hc => of_decide_eq_true (List.all_eq_true.mp h5 c hc)
    · show IsTok (tl y)
      split at h3
      · rename_i c ec
        rw [ec]
        exact tok_one (of_decide_eq_true h3)
      · rename_i c e2 ec
        obtain ⟨h4, h5⟩ := Bool.and_eq_true_iff.mp h3
        rw [ec, of_decide_eq_true h5]
        exact tok_two (of_decide_eq_true h4)
      · cases h3
  | _ =>
    rw [e] at h1
    cases h1
def spSpoilt : Sp := fun vs H Q _ => ∃ (h d p : Addr) (ws : List Str), vs = [.ref h, .ref p] ∧ HandAt H h d ∧ H p = some (.lst (ws.map V.str)) ∧ ws ≠ [] ∧ WOk 40 ws ∧
  ∀ p' ws' H', H' p' = some (.lst ((ws' : List Str).map V.str)) → WOk (ws.length + 1) ws' → Keep h H H' → HandAt H' h d → Q (.ref p') H'
theorem WOk.of {n : Nat} {ws ws' : List Str} {y : Str} (h : WOk n ws) (ty : Tok y) (ly : y.length ≤ 13) (hl : ws'.length ≤ ws.length + 1) (hm : ∀ x ∈ ws', x ∈ ws ∨ x = y) : WOk (ws.length + 1) ws' :=
  ⟨hl, fun x hx => (hm x hx).elim (h.tok x) (fun e => e ▸ ty), fun x hx => (hm x hx).elim (h.short x) (fun e => e ▸ ly)⟩
theorem k_law_spoilt (T : Tx K mg) : C8.Cal P w K mg base 2 "_law_spoilt" spSpoilt [] := by
  refine cal_of (N := n_law_spoilt) T.d_law_spoilt sc_law_spoilt (fun _ _ F => F.bindsN fun _ _ _ _ _ _ us hl => match us, hl with | [_, _], _ => rfl) (fun vs H Q E h => ?_) (fun f cdv A outer s H vs Q E hr h => ?_)
  · obtain ⟨a, d, p, ws, rfl, _⟩ := h
    rfl
  · obtain ⟨a, d, p, ws, rfl, hh, e, ne, wo, q⟩ := h
    have pa := list_ne_hand hh e
    have hpos : 0 < ws.length := List.length_pos_iff.mpr ne
    have hwl := wo.len
    refine ⟨_, (pss_cons (ps_asg (pe_lst (pa_cons pe_str (pa_cons pe_str (pa_cons pe_str (pa_cons pe_str (pa_cons pe_str (pa_cons pe_str (pa_cons pe_str (pa_cons pe_str (pa_cons pe_str (pa_cons pe_str (pa_cons pe_str (pa_cons pe_str (pa_cons pe_str (pa_cons pe_str (pa_cons pe_str (pa_cons pe_str (pa_cons pe_str (pa_cons pe_str pa_nil))))))))))))))))))) (pg_name (i := 2) sc_law_spoilt.nd rfl (Or.inl rfl))) (pss_cons (ps_asg (pe_op op_add3 (pv 2) (pe_lst (pa_cons pe_str (pa_cons pe_str (pa_cons pe_str pa_nil))))) (pg_name (i := 2) sc_law_spoilt.nd rfl (Or.inl rfl))) (pss_cons (ps_asg (C8.pe_c (k_law_take T) hr (by first | decide | omega) (by rfl) (pa_cons (pv 0) (pa_cons (pe_callB (call_len2 : CallR _ _ (rLn K)) (by rfl) T.z_len (by decide +kernel) (pa_cons (pv 1) pa_nil)) pa_nil))) (pg_name (i := 3) sc_law_spoilt.nd rfl (Or.inl rfl))) (pss_cons (ps_asg (C8.pe_c (k_law_take T) hr (by first | decide | omega) (by rfl) (pa_cons (pv 0) (pa_cons pe_int pa_nil))) (pg_name (i := 4) sc_law_spoilt.nd rfl (Or.inl rfl))) (pss_cons (ps_asg (pe_ix (ix_seq : IxR _ (rIx K)) (pv 2) (C8.pe_c (k_law_take T) hr (by first | decide | omega) (by rfl) (pa_cons (pv 0) (pa_cons (pe_callB (call_len2 : CallR _ _ (rLn K)) (by rfl) T.z_len (by decide +kernel) (pa_cons (pv 2) pa_nil)) pa_nil))) (fun _ _ => rfl)) (pg_name (i := 5) sc_law_spoilt.nd rfl (Or.inl rfl))) (C8.pss_cut (ps_if (pt_cmpR (op_eq2 hr.units : OpR _ _ (rEq2 K)) (C8.pe_c (k_law_take T) hr (by first | decide | omega) (by rfl) (pa_cons (pv 0) (pa_cons pe_int pa_nil))) pe_int (nomark _)) (pss_one (ps_asg (pe_ix (ix_seq : IxR _ (rIx K)) (pe_c0 (k_law_reserved T) hr (by first | decide | omega) (by rfl)) (C8.pe_c (k_law_take T) hr (by first | decide | omega) (by rfl) (pa_cons (pv 0) (pa_cons pe_int pa_nil))) (fun _ _ => rfl)) (pg_name (i := 5) sc_law_spoilt.nd rfl (Or.inl rfl)))) pss_nil) (pss_cons (ps_if (pt_cmpR (op_eq2 hr.units : OpR _ _ (rEq2 K)) (pv 4) pe_int (nomark _)) (pss_one (ps_ret (pe_op op_add3 (pe_slice (sl_2 : SlR _ (rSl2 K)) (pv 1) po_none (po_some (pv 3))) (pe_slice (sl_2 : SlR _ (rSl2 K)) (pv 1) (po_some (pe_op op_add3 (pv 3) pe_int)) po_none)))) pss_nil) (pss_cons (ps_if (pt_cmpR (op_eq2 hr.units : OpR _ _ (rEq2 K)) (pv 4) pe_int (nomark _)) (pss_one (ps_ret (pe_op op_add3 (pe_op op_add3 (pe_slice (sl_2 : SlR _ (rSl2 K)) (pv 1) po_none (po_some (pv 3))) (pe_lst (pa_cons (pe_ix (ix_seq : IxR _ (rIx K)) (pv 1) (pv 3) (fun _ _ => rfl)) pa_nil))) (pe_slice (sl_2 : SlR _ (rSl2 K)) (pv 1) (po_some (pv 3)) po_none)))) pss_nil) (pss_cons (ps_if (pt_cmpR (op_eq2 hr.units : OpR _ _ (rEq2 K)) (pv 4) pe_int (nomark _)) (pss_one (ps_ret (pe_op op_add3 (pe_op op_add3 (pe_slice (sl_2 : SlR _ (rSl2 K)) (pv 1) po_none (po_some (pv 3))) (pe_lst (pa_cons (pv 5) pa_nil))) (pe_slice (sl_2 : SlR _ (rSl2 K)) (pv 1) (po_some (pv 3)) po_none)))) pss_nil) (pss_cons (ps_if (pt_cmpR (op_eq2 hr.units : OpR _ _ (rEq2 K)) (pv 4) pe_int (nomark _)) (pss_one (ps_ret (pe_op op_add3 (pe_op op_add3 (pe_slice (sl_2 : SlR _ (rSl2 K)) (pv 1) po_none (po_some (pv 3))) (pe_lst (pa_cons (pv 5) pa_nil))) (pe_slice (sl_2 : SlR _ (rSl2 K)) (pv 1) (po_some (pe_op op_add3 (pv 3) pe_int)) po_none)))) pss_nil) (pss_cons (ps_asg (C8.pe_c (k_law_take T) hr (by first | decide | omega) (by rfl) (pa_cons (pv 0) (pa_cons (pe_callB (call_len2 : CallR _ _ (rLn K)) (by rfl) T.z_len (by decide +kernel) (pa_cons (pv 1) pa_nil)) pa_nil))) (pg_name (i := 6) sc_law_spoilt.nd rfl (Or.inl rfl))) (pss_cons (ps_asg (pe_callTy (call_lst : CallR _ _ (rLst K)) (by rfl) T.z_list (by decide +kernel) (pa_cons (pv 1) pa_nil)) (pg_name (i := 7) sc_law_spoilt.nd rfl (Or.inl rfl))) (pss_cons (ps_asg (pe_ix (ix_seq : IxR _ (rIx K)) (pv 1) (pv 6) (fun _ _ => rfl)) (pg_sub (pv 7) (pv 3) set_list)) (pss_cons (ps_asg (pe_ix (ix_seq : IxR _ (rIx K)) (pv 1) (pv 3) (fun _ _ => rfl)) (pg_sub (pv 7) (pv 6) set_list)) (pss_one (ps_ret (pv 7))))))))))))))))), ?_⟩
    walk_at "ss"
    refine n_obj (lz (by simp)) fun p1 H1 n1 s1 e1 => ?_
    walk_at "ss"
    refine n_obj (lz (by simp)) fun p2 H2 n2 s2 e2 => ?_
    refine o_addL (s2 _ _ e1) e2 (lz (by simp)) fun p3 H3 n3 s3 e3 => ?_
    have s03 := (s1.trans s2).trans s3
    have hh3 := hh.same s03
    have n03 := (s1.trans s2).free n3
    have nn3 := hh.new n03
    obtain ⟨xs, exs, oxs, lxs⟩ : ∃ xs : List V, H3 p3 = some (.lst xs) ∧ xs.all oddB = true ∧ xs.length = 21 := ⟨_, e3, by decide +kernel, rfl⟩
    clear e3
    walk_at "ss"
    refine b_lenL (lst_of (s03 _ _ e)) ?_
    rw [List.length_map]
    walk_at "ss"
    refine ⟨a, d, _, rfl, hh3, by omega, fun r H4 r0 r1 c4 hh4 => ?_⟩
    obtain ⟨j, hj⟩ : ∃ j : Nat, r = (j : Int) := ⟨r.toNat, by omega⟩
    subst hj
    have hj : j < ws.length := by omega
    walk_at "ss"
    refine ⟨a, d, _, rfl, hh4, by omega, fun kind H5 k0 k1 c5 hh5 => ?_⟩
    have x5 := c5.at (c4.at exs nn3.1.symm) nn3.1.symm
    walk_at "ss"
    refine b_lenL (lst_of x5) ?_
    rw [lxs]
    walk_at "ss"
    refine ⟨a, d, _, rfl, hh5, by decide, fun r2 H6 r3 r4 c6 hh6 => ?_⟩
    obtain ⟨j2, hj2⟩ : ∃ j : Nat, r2 = (j : Int) := ⟨r2.toNat, by omega⟩
    subst hj2
    obtain ⟨y, gy, ly, ty⟩ := odd_item oxs (j := j2) (by omega)
    refine o_ixL (lst_of (c6.at x5 nn3.1.symm)) (atI_nat gy) ?_
    have k6 : Keep a H H6 := ((s03.keep.trans c4.keep).trans c5.keep).trans c6.keep
    walk_at "ss"
    refine s_cut (fun σ H' => HandAt H' a d ∧ Keep a H H' ∧ ∃ y : Str, y.length ≤ 13 ∧ Tok y ∧ σ = [some (.ref a), some (.ref p), some (.ref p3), some (.int j), some (.int kind), some (.str y), none, none]) ?_ (fun σ' H8 hM => ?_)
    · walk_at "ss"
      refine ⟨a, d, _, rfl, hh6, by omega, fun r5 H7 r6 r7 c7 hh7 => ?_⟩
      have k7 : Keep a H H7 := k6.trans c7.keep
      walk_at "ss"
      refine o_eqS rfl ?_
      walk_at "ss"
      refine ite2 (fun e => ?_) (fun e => ?_)
      · walk_at "ss"
        refine ⟨rfl, fun p8 H8 s8 n8 e8 => ?_⟩
        have nn8 := hh7.new n8
        walk_at "ss"
        refine ⟨a, d, _, rfl, hh7.same s8, by omega, fun r8 H9 r9 r10 c9 hh9 => ?_⟩
        obtain ⟨j3, hj3⟩ : ∃ j : Nat, r8 = (j : Int) := ⟨r8.toNat, by omega⟩
        subst hj3
        obtain ⟨y3, gy3, ly3, ty3⟩ := odd_item (xs := c_RESERVED) (by decide +kernel) (j := j3) (show j3 < 27 by omega)
        refine o_ixL (lst_of (c9.at e8 nn8.1.symm)) (atI_nat gy3) ?_
        walk_at "ss"
        exact ⟨hh9, (k7.trans s8.keep).trans c9.keep, y3, ly3, ty3, rfl⟩
      · walk_at "ss"
        exact ⟨hh7, k7, y, ly, ty, rfl⟩
    · obtain ⟨hh8, k8, y, ly, ty, rfl⟩ := hM
      have e8 := k8 p _ pa e
      walk_at "ss"
      refine o_eqS rfl ?_
      walk_at "ss"
      refine ite2 (fun e => ?_) (fun e => ?_)
      · walk_at "ss"
        refine l_L (lst_of e8) fun p9 H9 n9 s9 e9 => ?_
        rw [cut_take] at e9
        walk_at "ss"
        refine l_L (lst_of (s9 _ _ e8)) fun p10 H10 n10 s10 e10 => ?_
        rw [show (j : Int) + 1 = ((j + 1 : Nat) : Int) from rfl, cut_drop] at e10
        refine o_addL (s10 _ _ e9) e10 (lz (by simp; omega)) fun p11 H11 n11 s11 e11 => ?_
        have s811 := (s9.trans s10).trans s11
        refine q p11 (ws.take j ++ ws.drop (j + 1)) H11 (by rw [e11, List.map_append]) (wo.of ty ly (by simp; omega) fun x hx => ?_) (k8.trans s811.keep) (hh8.same s811)
        rcases List.mem_append.mp hx with hx | hx
        · exact .inl (List.mem_of_mem_take hx)
        · exact .inl (List.mem_of_mem_drop hx)
      · walk_at "ss"
        refine o_eqS rfl ?_
        walk_at "ss"
        refine ite2 (fun e => ?_) (fun e => ?_)
        · walk_at "ss"
          refine l_L (lst_of e8) fun p9 H9 n9 s9 e9 => ?_
          rw [cut_take] at e9
          walk_at "ss"
          refine o_ixL (lst_of (s9 _ _ e8)) (atI_of (j := j) (v := .str ws[j]) rfl (by rw [List.getElem?_map, List.getElem?_eq_getElem hj]; rfl)) ?_
          walk_at "ss"
          refine n_obj (lz (by simp)) fun p10 H10 n10 s10 e10 => ?_
          refine o_addL (s10 _ _ e9) e10 (lz (by simp; omega)) fun p11 H11 n11 s11 e11 => ?_
          walk_at "ss"
          refine l_L (lst_of (s11 _ _ (s10 _ _ (s9 _ _ e8)))) fun p12 H12 n12 s12 e12 => ?_
          rw [cut_drop] at e12
          refine o_addL (s12 _ _ e11) e12 (lz (by simp; omega)) fun p13 H13 n13 s13 e13 => ?_
          have s813 := (((s9.trans s10).trans s11).trans s12).trans s13
          refine q p13 (ws.take j ++ [ws[j]] ++ ws.drop j) H13 (by rw [e13, List.map_append, List.map_append]; rfl) (wo.of ty ly (by simp; omega) fun x hx => ?_) (k8.trans s813.keep) (hh8.same s813)
          rcases List.mem_append.mp hx with hx | hx
          · rcases List.mem_append.mp hx with hx | hx
            · exact .inl (List.mem_of_mem_take hx)
            · exact .inl (by rw [List.mem_singleton.mp hx]; exact List.getElem_mem hj)
          · exact .inl (List.mem_of_mem_drop hx)
        · walk_at "ss"
          refine o_eqS rfl ?_
          walk_at "ss"
          refine ite2 (fun e => ?_) (fun e => ?_)
          · walk_at "ss"
            refine l_L (lst_of e8) fun p9 H9 n9 s9 e9 => ?_
            rw [cut_take] at e9
            walk_at "ss"
            refine n_obj (lz (by simp)) fun p10 H10 n10 s10 e10 => ?_
            refine o_addL (s10 _ _ e9) e10 (lz (by simp; omega)) fun p11 H11 n11 s11 e11 => ?_
            walk_at "ss"
            refine l_L (lst_of (s11 _ _ (s10 _ _ (s9 _ _ e8)))) fun p12 H12 n12 s12 e12 => ?_
            rw [cut_drop] at e12
            refine o_addL (s12 _ _ e11) e12 (lz (by simp; omega)) fun p13 H13 n13 s13 e13 => ?_
            have s813 := (((s9.trans s10).trans s11).trans s12).trans s13
            refine q p13 (ws.take j ++ [y] ++ ws.drop j) H13 (by rw [e13, List.map_append, List.map_append]; rfl) (wo.of ty ly (by simp; omega) fun x hx => ?_) (k8.trans s813.keep) (hh8.same s813)
            rcases List.mem_append.mp hx with hx | hx
            · rcases List.mem_append.mp hx with hx | hx
              · exact .inl (List.mem_of_mem_take hx)
              · exact .inr (List.mem_singleton.mp hx)
            · exact .inl (List.mem_of_mem_drop hx)
          · walk_at "ss"
            refine o_eqS rfl ?_
            walk_at "ss"
            refine ite2 (fun e => ?_) (fun e => ?_)
            · walk_at "ss"
              refine l_L (lst_of e8) fun p9 H9 n9 s9 e9 => ?_
              rw [cut_take] at e9
              walk_at "ss"
              refine n_obj (lz (by simp)) fun p10 H10 n10 s10 e10 => ?_
              refine o_addL (s10 _ _ e9) e10 (lz (by simp; omega)) fun p11 H11 n11 s11 e11 => ?_
              walk_at "ss"
              refine l_L (lst_of (s11 _ _ (s10 _ _ (s9 _ _ e8)))) fun p12 H12 n12 s12 e12 => ?_
              rw [show (j : Int) + 1 = ((j + 1 : Nat) : Int) from rfl, cut_drop] at e12
              refine o_addL (s12 _ _ e11) e12 (lz (by simp; omega)) fun p13 H13 n13 s13 e13 => ?_
              have s813 := (((s9.trans s10).trans s11).trans s12).trans s13
              refine q p13 (ws.take j ++ [y] ++ ws.drop (j + 1)) H13 (by rw [e13, List.map_append, List.map_append]; rfl) (wo.of ty ly (by simp; omega) fun x hx => ?_) (k8.trans s813.keep) (hh8.same s813)
              rcases List.mem_append.mp hx with hx | hx
              · rcases List.mem_append.mp hx with hx | hx
                · exact .inl (List.mem_of_mem_take hx)
                · exact .inr (List.mem_singleton.mp hx)
              · exact .inl (List.mem_of_mem_drop hx)
            · walk_at "ss"
              refine b_lenL (lst_of e8) ?_
              rw [List.length_map]
              walk_at "ss"
              refine ⟨a, d, _, rfl, hh8, by omega, fun r9 H9 r10 r11 c9 hh9 => ?_⟩
              obtain ⟨j4, hj4⟩ : ∃ j : Nat, r9 = (j : Int) := ⟨r9.toNat, by omega⟩
              subst hj4
              have hj4 : j4 < ws.length := by omega
              have e9 := c9.at e8 pa
              walk_at "ss"
              refine b_lst (lst_of e9) fun p10 H10 n10 s10 e10 => ?_
              walk_at "ss"
              refine o_ixL (lst_of (s10 _ _ e9)) (atI_of (j := j4) (v := .str ws[j4]) rfl (by rw [List.getElem?_map, List.getElem?_eq_getElem hj4]; rfl)) ?_
              walk_at "ss"
              have np : p ≠ p10 := ne_of_none e9 n10
              have nn10 := hh9.new n10
              refine st_L e10 (j := j) (ixN_nat (by rw [List.length_map]; exact hj)) fun H11 c11 e11 => ?_
              walk_at "ss"
              refine o_ixL (lst_of (c11.at (s10 _ _ e9) np)) (atI_of (j := j) (v := .str ws[j]) rfl (by rw [List.getElem?_map, List.getElem?_eq_getElem hj]; rfl)) ?_
              walk_at "ss"
              refine st_L e11 (j := j4) (ixN_nat (by rw [List.length_set, List.length_map]; exact hj4)) fun H12 c12 e12 => ?_
              walk_at "ss"
              refine q p10 ((ws.set j ws[j4]).set j4 ws[j]) H12 (by rw [e12, List.map_set, List.map_set]) (wo.of ty ly (by simp) fun x hx => ?_) ((((k8.trans c9.keep).trans s10.keep).chg c11 ((k8.trans c9.keep).free n10 nn10.1.symm)).chg c12 ((k8.trans c9.keep).free n10 nn10.1.symm)) ((((hh9.same s10).chg c11 nn10.1 nn10.2)).chg c12 nn10.1 nn10.2)
              rcases List.mem_or_eq_of_mem_set hx with hx | hx
              · rcases List.mem_or_eq_of_mem_set hx with hx | hx
                · exact .inl hx
                · exact .inl (by rw [hx]; exact List.getElem_mem hj4)
              · exact .inl (by rw [hx]; exact List.getElem_mem hj)
end
end K02
namespace K02
open PySem PySem.Spec PyProof.Rows L2 Wy WM W3 W4 W5

/-- a list of what was read and the place behind it, or None -/
def LP (H : Hp) (v : V) (o : Option (PyData × Nat)) : Prop := match o with
  | none => v = .non
  | some (d, j) => ∃ a u, v = .ref a ∧ H a = some (.lst [u, .int (j : Int)]) ∧ Tp H u d
def spWsL (f : List Str → Nat → Option (PyData × Nat)) : Sp := fun vs H Q _ => ∃ (p : Addr) (ws : List Str) (i : Nat), vs = [.ref p, .int i] ∧ H p = some (.lst ((ws : List Str).map V.str)) ∧ SmallW ws ∧ ∀ v H', Same H H' → LP H' v (f ws i) → Q v H'
theorem spWsL_len {f : List Str → Nat → Option (PyData × Nat)} (vs : List V) (H : Hp) (Q : VK) (E : XK) (h : spWsL f vs H Q E) : vs.length = 2 := by
  obtain ⟨p, ws, i, rfl, _⟩ := h
  rfl
def iP (o : Option (Int × Nat)) : Option (PyData × Nat) := o.map fun q => (.int q.1, q.2)
def eP (o : Option (Ex × Nat)) : Option (PyData × Nat) := o.map fun q => (q.1.d, q.2)
theorem lp_mk {H : Hp} {a : Addr} {u : V} {d : PyData} {j : Nat} (e : H a = some (.lst [u, .int (j : Int)])) (t : Tp H u d) : LP H (.ref a) (some (d, j)) := ⟨a, u, rfl, e, t⟩
section
variable {P : Program} {w : World} {K : PySem.W.Frag} {mg : Str → Option Value} {base : Heap}
theorem k_law_signed (T : Tx K mg) : C8.Cal P w K mg base 2 "_law_signed" (spWsL fun ws i => iP (takeSigned ws i)) [] := by
  refine cal_of (N := n_law_signed) T.d_law_signed sc_law_signed (fun _ _ F => F.bindsN fun _ _ _ _ _ _ us hl => match us, hl with | [_, _], _ => rfl) spWsL_len (fun f cdv A outer s H vs Q E hr h => ?_)
  obtain ⟨p, ws, i, rfl, e, sm, q⟩ := h
  dsimp only at q
  have hwl := sm.len
  refine ⟨_, (pss_cons (ps_if (PW.pt (pw_and (pt_cmpR op_lt (pv 1) (pe_callB (call_len2 : CallR _ _ (rLn K)) (by rfl) T.z_len (by decide +kernel) (pa_cons (pv 0) pa_nil)) (nomark _)) (pw_and1 (pt_tr (C8.pe_c (k_law_is_number T) hr (by first | decide | omega) (by rfl) (pa_cons (pe_ix (ix_seq : IxR _ (rIx K)) (pv 0) (pv 1) (fun _ _ => rfl)) pa_nil)) : PT _ _ (tTr K _))))) (pss_one (ps_ret (pe_lst (pa_cons (pe_callTy call_int2 (by rfl) T.z_int (by decide +kernel) (pa_cons (pe_ix (ix_seq : IxR _ (rIx K)) (pv 0) (pv 1) (fun _ _ => rfl)) pa_nil)) (pa_cons (pe_op op_add3 (pv 1) pe_int) pa_nil))))) pss_nil) (pss_cons (ps_if (PW.pt (pw_and (pt_cmpR op_lt (pe_op op_add3 (pv 1) pe_int) (pe_callB (call_len2 : CallR _ _ (rLn K)) (by rfl) T.z_len (by decide +kernel) (pa_cons (pv 0) pa_nil)) (nomark _)) (pw_and (pt_cmpR (op_eq2 hr.units : OpR _ _ (rEq2 K)) (pe_ix (ix_seq : IxR _ (rIx K)) (pv 0) (pv 1) (fun _ _ => rfl)) pe_str (nomark _)) (pw_and1 (pt_tr (C8.pe_c (k_law_is_number T) hr (by first | decide | omega) (by rfl) (pa_cons (pe_ix (ix_seq : IxR _ (rIx K)) (pv 0) (pe_op op_add3 (pv 1) pe_int) (fun _ _ => rfl)) pa_nil)) : PT _ _ (tTr K _)))))) (pss_one (ps_ret (pe_lst (pa_cons (pe_un un_neg (pe_callTy call_int2 (by rfl) T.z_int (by decide +kernel) (pa_cons (pe_ix (ix_seq : IxR _ (rIx K)) (pv 0) (pe_op op_add3 (pv 1) pe_int) (fun _ _ => rfl)) pa_nil))) (pa_cons (pe_op op_add3 (pv 1) pe_int) pa_nil))))) pss_nil) (pss_one (ps_ret pe_non)))), ?_⟩
  unfold takeSigned at q
  walk_at "ss"
  refine b_lenL (lst_of e) ?_
  rw [List.length_map]
  walk_at "ss"
  by_cases hi : i < ws.length
  · rw [decide_eq_true (show (i : Int) < (ws.length : Int) by omega)]
    refine iteT ?_
    walk_at "ss"
    refine o_ixL (lst_of e) (strs_at hi) ?_
    walk_at "ss"
    refine ⟨_, rfl, sm.at6 _, fun H1 s1 => ?_⟩
    have e1 := s1 _ _ e
    walk_at "ss"
    by_cases hn : numberW (wordAt ws i) = true
    · rw [if_pos hn] at q
      rw [hn]
      refine iteT ?_
      walk_at "ss"
      refine o_ixL (lst_of e1) (strs_at hi) ?_
      walk_at "ss"
      refine b_intS (number_int hn).1 (number_int hn).2 ?_
      walk_at "ss"
      refine n_obj (lz (by simp)) fun p2 H2 n2 s2 e2 => ?_
      exact q _ H2 (s1.trans s2) (lp_mk (j := i + 1) e2 (.int _))
    · rw [if_neg hn] at q
      rw [Bool.eq_false_iff.mpr hn]
      refine iteF ?_
      walk_at "ss"
      refine b_lenL (lst_of e1) ?_
      rw [List.length_map]
      walk_at "ss"
      by_cases hi2 : i + 1 < ws.length
      · rw [decide_eq_true (show (i : Int) + 1 < (ws.length : Int) by omega)]
        refine iteT ?_
        walk_at "ss"
        refine o_ixL (lst_of e1) (strs_at hi) ?_
        walk_at "ss"
        refine o_eqS rfl ?_
        walk_at "ss"
        by_cases hm : wordAt ws i = "-"
        · rw [show decide (V.str (wordAt ws i) = V.str ("-" : Str)) = true from decide_eq_true (congrArg V.str hm)]
          refine iteT ?_
          walk_at "ss"
          refine o_ixL (lst_of e1) (strs_at (i := i + 1) hi2) ?_
          walk_at "ss"
          refine ⟨_, rfl, sm.at6 _, fun H2 s2 => ?_⟩
          have e2 := s2 _ _ e1
          walk_at "ss"
          by_cases hn2 : numberW (wordAt ws (i + 1)) = true
          · rw [if_pos ⟨hm, hn2⟩] at q
            rw [hn2]
            refine iteT ?_
            walk_at "ss"
            refine o_ixL (lst_of e2) (strs_at (i := i + 1) hi2) ?_
            walk_at "ss"
            refine b_intS (number_int hn2).1 (number_int hn2).2 ?_
            walk_at "ss"
            refine n_obj (lz (by simp)) fun p3 H3 n3 s3 e3 => ?_
            exact q _ H3 ((s1.trans s2).trans s3) (lp_mk (j := i + 2) e3 (.int _))
          · rw [if_neg (fun h => hn2 h.2)] at q
            rw [Bool.eq_false_iff.mpr hn2]
            refine iteF ?_
            walk_at "ss"
            exact q _ H2 (s1.trans s2) rfl
        · rw [if_neg (fun h => hm h.1)] at q
          rw [show decide (V.str (wordAt ws i) = V.str ("-" : Str)) = false from decide_eq_false (fun h => hm (V.str.inj h))]
          refine iteF ?_
          refine iteF ?_
          walk_at "ss"
          exact q _ H1 s1 rfl
      · rw [wordAt_out (i := i + 1) (by omega), if_neg (fun h => absurd h.2 (by rw [no_num]; simp))] at q
        rw [decide_eq_false (show ¬ (i : Int) + 1 < (ws.length : Int) by omega)]
        refine iteF ?_
        refine iteF ?_
        walk_at "ss"
        exact q _ H1 s1 rfl
  · rw [wordAt_out (i := i) (by omega), no_num, if_neg Bool.false_ne_true, if_neg (fun h => absurd h.1 (by decide +kernel))] at q
    rw [decide_eq_false (show ¬ (i : Int) < (ws.length : Int) by omega)]
    refine iteF ?_
    refine iteF ?_
    walk_at "ss"
    refine b_lenL (lst_of e) ?_
    rw [List.length_map]
    walk_at "ss"
    rw [decide_eq_false (show ¬ (i : Int) + 1 < (ws.length : Int) by omega)]
    refine iteF ?_
    refine iteF ?_
    walk_at "ss"
    exact q _ H (Same.refl H) rfl
theorem k_law_read_plus (T : Tx K mg) : C8.Cal P w K mg base 2 "_law_read_plus" (spWsL fun ws i => iP (takePlus ws i)) [] := by
  refine cal_of (N := n_law_read_plus) T.d_law_read_plus sc_law_read_plus (fun _ _ F => F.bindsN fun _ _ _ _ _ _ us hl => match us, hl with | [_, _], _ => rfl) spWsL_len (fun f cdv A outer s H vs Q E hr h => ?_)
  obtain ⟨p, ws, i, rfl, e, sm, q⟩ := h
  dsimp only at q
  have hwl := sm.len
  refine ⟨_, (pss_cons (ps_if (PW.pt (pw_and (pt_cmpR op_lt (pv 1) (pe_callB (call_len2 : CallR _ _ (rLn K)) (by rfl) T.z_len (by decide +kernel) (pa_cons (pv 0) pa_nil)) (nomark _)) (pw_and1 (pt_cmpR (op_in2 : OpR _ _ (rIn2 K)) (pe_ix (ix_seq : IxR _ (rIx K)) (pv 0) (pv 1) (fun _ _ => rfl)) (pe_lst (pa_cons pe_str (pa_cons pe_str pa_nil))) (by rfl))))) (pss_cons (ps_if (PW.pt (pw_or (pt_cmpR op_ge (pe_op op_add3 (pv 1) pe_int) (pe_callB (call_len2 : CallR _ _ (rLn K)) (by rfl) T.z_len (by decide +kernel) (pa_cons (pv 0) pa_nil)) (nomark _)) (pw_or1 (pt_not (pt_tr (C8.pe_c (k_law_is_number T) hr (by first | decide | omega) (by rfl) (pa_cons (pe_ix (ix_seq : IxR _ (rIx K)) (pv 0) (pe_op op_add3 (pv 1) pe_int) (fun _ _ => rfl)) pa_nil)) : PT _ _ (tTr K _)))))) (pss_one (ps_ret pe_non)) pss_nil) (pss_one (ps_ret (pe_lst (pa_cons (pe_callTy call_int2 (by rfl) T.z_int (by decide +kernel) (pa_cons (pe_op op_add3 (pe_ix (ix_seq : IxR _ (rIx K)) (pv 0) (pv 1) (fun _ _ => rfl)) (pe_ix (ix_seq : IxR _ (rIx K)) (pv 0) (pe_op op_add3 (pv 1) pe_int) (fun _ _ => rfl))) pa_nil)) (pa_cons (pe_op op_add3 (pv 1) pe_int) pa_nil)))))) pss_nil) (pss_one (ps_ret (pe_lst (pa_cons pe_int (pa_cons (pv 1) pa_nil)))))), ?_⟩
  unfold takePlus at q
  walk_at "ss"
  refine b_lenL (lst_of e) ?_
  rw [List.length_map]
  walk_at "ss"
  by_cases hi : i < ws.length
  · rw [decide_eq_true (show (i : Int) < (ws.length : Int) by omega)]
    refine iteT ?_
    walk_at "ss"
    refine o_ixL (lst_of e) (strs_at hi) ?_
    walk_at "ss"
    refine n_obj (lz (by simp)) fun p1 H1 n1 s1 e1 => ?_
    have e1' := s1 _ _ e
    refine o_inL (lst_of e1) rfl (by decide +kernel) ?_
    walk_at "ss"
    have hin : inV (.str (wordAt ws i)) [.str "+", .str "-"] = decide (wordAt ws i = "+" ∨ wordAt ws i = "-") := by
      show ((("+" : Str) == wordAt ws i) || ((("-" : Str) == wordAt ws i) || false)) = _
      rw [Bool.or_false, Bool.eq_iff_iff, Bool.or_eq_true, beq_iff_eq, beq_iff_eq, decide_eq_true_iff]
      exact ⟨fun h => h.imp Eq.symm Eq.symm, fun h => h.imp Eq.symm Eq.symm⟩
    by_cases hs : wordAt ws i = "+" ∨ wordAt ws i = "-"
    · rw [if_pos hs] at q
      rw [hin, decide_eq_true hs]
      refine iteT ?_
      walk_at "ss"
      refine b_lenL (lst_of e1') ?_
      rw [List.length_map]
      walk_at "ss"
      by_cases hi2 : i + 1 < ws.length
      · rw [decide_eq_false (show ¬ (ws.length : Int) ≤ (i : Int) + 1 by omega)]
        refine iteF ?_
        walk_at "ss"
        refine o_ixL (lst_of e1') (strs_at (i := i + 1) hi2) ?_
        walk_at "ss"
        refine ⟨_, rfl, sm.at6 _, fun H2 s2 => ?_⟩
        have e2 := s2 _ _ e1'
        walk_at "ss"
        by_cases hn2 : numberW (wordAt ws (i + 1)) = true
        · rw [if_pos hn2] at q
          rw [hn2]
          refine iteF ?_
          walk_at "ss"
          refine o_ixL (lst_of e2) (strs_at hi) ?_
          walk_at "ss"
          refine o_ixL (lst_of e2) (strs_at (i := i + 1) hi2) ?_
          have lw := (number_parts hn2).2.1
          refine o_addS (lz (by have h1 : (wordAt ws i).length = 1 := by { rcases hs with h | h <;> (rw [h]; rfl) }; omega)) ?_
          walk_at "ss"
          by_cases hp : wordAt ws i = "+"
          · rw [if_pos hp] at q
            rw [hp]
            refine b_intS (plus_int hn2).1 (plus_int hn2).2 ?_
            walk_at "ss"
            refine n_obj (lz (by simp)) fun p3 H3 n3 s3 e3 => ?_
            exact q _ H3 ((s1.trans s2).trans s3) (lp_mk (j := i + 2) e3 (.int _))
          · rw [if_neg hp] at q
            rw [hs.resolve_left hp]
            refine b_intS (minus_int hn2).1 (minus_int hn2).2 ?_
            walk_at "ss"
            refine n_obj (lz (by simp)) fun p3 H3 n3 s3 e3 => ?_
            exact q _ H3 ((s1.trans s2).trans s3) (lp_mk (j := i + 2) e3 (.int _))
        · rw [if_neg hn2] at q
          rw [Bool.eq_false_iff.mpr hn2]
          refine iteT ?_
          walk_at "ss"
          exact q _ H2 (s1.trans s2) rfl
      · rw [wordAt_out (i := i + 1) (by omega), no_num, if_neg Bool.false_ne_true] at q
        rw [decide_eq_true (show (ws.length : Int) ≤ (i : Int) + 1 by omega)]
        refine iteT ?_
        refine iteT ?_
        walk_at "ss"
        exact q _ H1 s1 rfl
    · rw [if_neg hs] at q
      rw [hin, decide_eq_false hs]
      refine iteF ?_
      walk_at "ss"
      refine n_obj (lz (by simp)) fun p3 H3 n3 s3 e3 => ?_
      exact q _ H3 (s1.trans s3) (lp_mk (j := i) e3 (.int _))
  · have hs : ¬ (wordAt ws i = "+" ∨ wordAt ws i = "-") := by
      rw [wordAt_out (by omega)]
      decide +kernel
    rw [if_neg hs] at q
    rw [decide_eq_false (show ¬ (i : Int) < (ws.length : Int) by omega)]
    refine iteF ?_
    refine iteF ?_
    walk_at "ss"
    refine n_obj (lz (by simp)) fun p3 H3 n3 s3 e3 => ?_
    exact q _ H3 s3 (lp_mk (j := i) e3 (.int _))
theorem signed_name {ws : List Str} {i : Nat} (h : nameW (wordAt ws i) = true) : takeSigned ws i = none := by
  unfold takeSigned
  rw [name_not_number h, if_neg Bool.false_ne_true, if_neg (fun h2 => name_ne h (y := "-") (by decide +kernel) h2.1)]
theorem k_law_read_plain (T : Tx K mg) : C8.Cal P w K mg base 3 "_law_read_plain" (spWsL fun ws i => eP (takePlain ws i)) [] := by
  refine cal_of (N := n_law_read_plain) T.d_law_read_plain sc_law_read_plain (fun _ _ F => F.bindsN fun _ _ _ _ _ _ us hl => match us, hl with | [_, _], _ => rfl) spWsL_len (fun f cdv A outer s H vs Q E hr h => ?_)
  obtain ⟨p, ws, i, rfl, e, sm, q⟩ := h
  dsimp only at q
  have hwl := sm.len
  refine ⟨_, (pss_cons (ps_asg (C8.pe_c (k_law_signed T) hr (by first | decide | omega) (by rfl) (pa_cons (pv 0) (pa_cons (pv 1) pa_nil))) (pg_name (i := 2) sc_law_read_plain.nd rfl (Or.inl rfl))) (pss_cons (ps_if (pt_cmpR op_ntN2 (pv 2) pe_non (nomark _)) (pss_one (ps_ret (pe_lst (pa_cons (pe_tup (pa_cons pe_str (pa_cons (pe_ix (ix_seq : IxR _ (rIx K)) (pv 2) pe_int (fun _ _ => rfl)) pa_nil))) (pa_cons (pe_ix (ix_seq : IxR _ (rIx K)) (pv 2) pe_int (fun _ _ => rfl)) pa_nil))))) pss_nil) (pss_cons (ps_if (PW.pt (pw_or (pt_cmpR op_ge (pv 1) (pe_callB (call_len2 : CallR _ _ (rLn K)) (by rfl) T.z_len (by decide +kernel) (pa_cons (pv 0) pa_nil)) (nomark _)) (pw_or1 (pt_not (pt_tr (C8.pe_c (k_law_is_name T) hr (by first | decide | omega) (by rfl) (pa_cons (pe_ix (ix_seq : IxR _ (rIx K)) (pv 0) (pv 1) (fun _ _ => rfl)) pa_nil)) : PT _ _ (tTr K _)))))) (pss_one (ps_ret pe_non)) pss_nil) (pss_cons (ps_asg (C8.pe_c (k_law_read_plus T) hr (by first | decide | omega) (by rfl) (pa_cons (pv 0) (pa_cons (pe_op op_add3 (pv 1) pe_int) pa_nil))) (pg_name (i := 2) sc_law_read_plain.nd rfl (Or.inl rfl))) (pss_cons (ps_if (pt_cmpR op_isN2 (pv 2) pe_non (nomark _)) (pss_one (ps_ret pe_non)) pss_nil) (pss_one (ps_ret (pe_lst (pa_cons (pe_tup (pa_cons pe_str (pa_cons (pe_ix (ix_seq : IxR _ (rIx K)) (pv 0) (pv 1) (fun _ _ => rfl)) (pa_cons (pe_ix (ix_seq : IxR _ (rIx K)) (pv 2) pe_int (fun _ _ => rfl)) pa_nil)))) (pa_cons (pe_ix (ix_seq : IxR _ (rIx K)) (pv 2) pe_int (fun _ _ => rfl)) pa_nil)))))))))), ?_⟩
  unfold takePlain at q
  walk_at "ss"
  refine ⟨p, ws, i, rfl, e, sm, fun v H1 s1 t1 => ?_⟩
  dsimp only at t1
  have e1 := s1 _ _ e
  by_cases hn : nameW (wordAt ws i) = true
  · rw [signed_name hn] at t1
    rw [if_pos hn] at q
    obtain rfl : v = .non := t1
    have hi := name_lt hn
    walk_at "ss"
    refine iteF ?_
    walk_at "ss"
    refine b_lenL (lst_of e1) ?_
    rw [List.length_map]
    walk_at "ss"
    rw [decide_eq_false (show ¬ (ws.length : Int) ≤ (i : Int) by omega)]
    refine iteF ?_
    walk_at "ss"
    refine o_ixL (lst_of e1) (strs_at hi) ?_
    walk_at "ss"
    refine ⟨_, rfl, sm.at6 _, fun H2 s2 => ?_⟩
    have e2 := s2 _ _ e1
    walk_at "ss"
    rw [hn]
    refine iteF ?_
    walk_at "ss"
    refine ⟨p, ws, i + 1, rfl, e2, sm, fun v H3 s3 t3 => ?_⟩
    dsimp only at t3
    have e3 := s3 _ _ e2
    cases hp : takePlus ws (i + 1) with
    | none =>
      rw [hp] at t3 q
      obtain rfl : v = .non := t3
      walk_at "ss"
      refine iteT ?_
      walk_at "ss"
      exact q _ H3 ((s1.trans s2).trans s3) rfl
    | some r =>
      obtain ⟨n, j⟩ := r
      rw [hp] at t3 q
      obtain ⟨a, u, rfl, ea, tu⟩ := t3
      obtain rfl := tp_int tu
      walk_at "ss"
      refine iteF ?_
      walk_at "ss"
      refine o_ixL (lst_of e3) (strs_at hi) ?_
      walk_at "ss"
      refine o_ixL (lst_of ea) (atI_nat (j := 0) rfl) ?_
      walk_at "ss"
      refine n_obj (lz (by simp)) fun p4 H4 n4 s4 e4 => ?_
      walk_at "ss"
      refine o_ixL (lst_of (s4 _ _ ea)) (atI_nat (j := 1) rfl) ?_
      walk_at "ss"
      refine n_obj (lz (by simp)) fun p5 H5 n5 s5 e5 => ?_
      exact q _ H5 ((((s1.trans s2).trans s3).trans s4).trans s5) (lp_mk e5 (.tup (s5 _ _ e4) (.cons (.str _) (.cons (.str _) (.cons (.int _) .nil)))))
  · rw [if_neg hn] at q
    cases hs : takeSigned ws i with
    | some r =>
      obtain ⟨n, j⟩ := r
      rw [hs] at t1 q
      obtain ⟨a, u, rfl, ea, tu⟩ := t1
      obtain rfl := tp_int tu
      walk_at "ss"
      refine iteT ?_
      walk_at "ss"
      refine o_ixL (lst_of ea) (atI_nat (j := 0) rfl) ?_
      walk_at "ss"
      refine n_obj (lz (by simp)) fun p4 H4 n4 s4 e4 => ?_
      walk_at "ss"
      refine o_ixL (lst_of (s4 _ _ ea)) (atI_nat (j := 1) rfl) ?_
      walk_at "ss"
      refine n_obj (lz (by simp)) fun p5 H5 n5 s5 e5 => ?_
      exact q _ H5 ((s1.trans s4).trans s5) (lp_mk e5 (pair_tp (s5 _ _ e4) (.str _) (.int _)))
    | none =>
      rw [hs] at t1 q
      obtain rfl : v = .non := t1
      walk_at "ss"
      refine iteF ?_
      walk_at "ss"
      refine b_lenL (lst_of e1) ?_
      rw [List.length_map]
      walk_at "ss"
      by_cases hi : i < ws.length
      · rw [decide_eq_false (show ¬ (ws.length : Int) ≤ (i : Int) by omega)]
        refine iteF ?_
        walk_at "ss"
        refine o_ixL (lst_of e1) (strs_at hi) ?_
        walk_at "ss"
        refine ⟨_, rfl, sm.at6 _, fun H2 s2 => ?_⟩
        walk_at "ss"
        rw [Bool.eq_false_iff.mpr hn]
        refine iteT ?_
        walk_at "ss"
        exact q _ H2 (s1.trans s2) rfl
      · rw [decide_eq_true (show (ws.length : Int) ≤ (i : Int) by omega)]
        refine iteT ?_
        refine iteT ?_
        walk_at "ss"
        exact q _ H1 s1 rfl
theorem k_law_read (T : Tx K mg) : C8.Cal P w K mg base 4 "_law_read" (spWsL fun ws i => eP (takeExpr ws i)) [] := by
  refine cal_of (N := n_law_read) T.d_law_read sc_law_read (fun _ _ F => F.bindsN fun _ _ _ _ _ _ us hl => match us, hl with | [_, _], _ => rfl) spWsL_len (fun f cdv A outer s H vs Q E hr h => ?_)
  obtain ⟨p, ws, i, rfl, e, sm, q⟩ := h
  dsimp only at q
  have hwl := sm.len
  refine ⟨_, (pss_cons (ps_if (PW.pt (pw_or (pt_cmpR op_ge (pe_op op_add3 (pv 1) pe_int) (pe_callB (call_len2 : CallR _ _ (rLn K)) (by rfl) T.z_len (by decide +kernel) (pa_cons (pv 0) pa_nil)) (nomark _)) (pw_or (pt_not (pt_tr (C8.pe_c (k_law_is_name T) hr (by first | decide | omega) (by rfl) (pa_cons (pe_ix (ix_seq : IxR _ (rIx K)) (pv 0) (pv 1) (fun _ _ => rfl)) pa_nil)) : PT _ _ (tTr K _))) (pw_or1 (pt_cmpR (op_ne2 hr.units : OpR _ _ (rNe2 K)) (pe_ix (ix_seq : IxR _ (rIx K)) (pv 0) (pe_op op_add3 (pv 1) pe_int) (fun _ _ => rfl)) pe_str (nomark _)))))) (pss_one (ps_ret (C8.pe_c (k_law_read_plain T) hr (by first | decide | omega) (by rfl) (pa_cons (pv 0) (pa_cons (pv 1) pa_nil))))) pss_nil) (pss_cons (ps_asg (C8.pe_c (k_law_read_plain T) hr (by first | decide | omega) (by rfl) (pa_cons (pv 0) (pa_cons (pe_op op_add3 (pv 1) pe_int) pa_nil))) (pg_name (i := 2) sc_law_read.nd rfl (Or.inl rfl))) (pss_cons (ps_if (PW.pt (pw_or (pt_cmpR op_isN2 (pv 2) pe_non (nomark _)) (pw_or (pt_cmpR op_ge (pe_ix (ix_seq : IxR _ (rIx K)) (pv 2) pe_int (fun _ _ => rfl)) (pe_callB (call_len2 : CallR _ _ (rLn K)) (by rfl) T.z_len (by decide +kernel) (pa_cons (pv 0) pa_nil)) (nomark _)) (pw_or1 (pt_cmpR (op_ne2 hr.units : OpR _ _ (rNe2 K)) (pe_ix (ix_seq : IxR _ (rIx K)) (pv 0) (pe_ix (ix_seq : IxR _ (rIx K)) (pv 2) pe_int (fun _ _ => rfl)) (fun _ _ => rfl)) pe_str (nomark _)))))) (pss_one (ps_ret pe_non)) pss_nil) (pss_cons (ps_asg (C8.pe_c (k_law_read_plus T) hr (by first | decide | omega) (by rfl) (pa_cons (pv 0) (pa_cons (pe_op op_add3 (pe_ix (ix_seq : IxR _ (rIx K)) (pv 2) pe_int (fun _ _ => rfl)) pe_int) pa_nil))) (pg_name (i := 3) sc_law_read.nd rfl (Or.inl rfl))) (pss_cons (ps_if (pt_cmpR op_isN2 (pv 3) pe_non (nomark _)) (pss_one (ps_ret pe_non)) pss_nil) (pss_one (ps_ret (pe_lst (pa_cons (pe_tup (pa_cons pe_str (pa_cons (pe_ix (ix_seq : IxR _ (rIx K)) (pv 0) (pv 1) (fun _ _ => rfl)) (pa_cons (pe_ix (ix_seq : IxR _ (rIx K)) (pv 2) pe_int (fun _ _ => rfl)) (pa_cons (pe_ix (ix_seq : IxR _ (rIx K)) (pv 3) pe_int (fun _ _ => rfl)) pa_nil))))) (pa_cons (pe_ix (ix_seq : IxR _ (rIx K)) (pv 3) pe_int (fun _ _ => rfl)) pa_nil)))))))))), ?_⟩
  unfold takeExpr at q
  walk_at "ss"
  refine b_lenL (lst_of e) ?_
  rw [List.length_map]
  walk_at "ss"
  by_cases hi2 : i + 1 < ws.length
  · have hi : i < ws.length := by omega
    rw [decide_eq_false (show ¬ (ws.length : Int) ≤ (i : Int) + 1 by omega)]
    refine iteF ?_
    walk_at "ss"
    refine o_ixL (lst_of e) (strs_at hi) ?_
    walk_at "ss"
    refine ⟨_, rfl, sm.at6 _, fun H1 s1 => ?_⟩
    have e1 := s1 _ _ e
    walk_at "ss"
    by_cases hn : nameW (wordAt ws i) = true
    · rw [hn]
      refine iteF ?_
      walk_at "ss"
      refine o_ixL (lst_of e1) (strs_at (i := i + 1) hi2) ?_
      walk_at "ss"
      refine o_neS rfl ?_
      walk_at "ss"
      by_cases hb : wordAt ws (i + 1) = "["
      · rw [if_pos ⟨hn, hb⟩] at q
        rw [show decide (V.str (wordAt ws (i + 1)) = V.str ("[" : Str)) = true from decide_eq_true (congrArg V.str hb)]
        refine iteF ?_
        walk_at "ss"
        refine ⟨p, ws, i + 2, rfl, e1, sm, fun v H2 s2 t2 => ?_⟩
        dsimp only at t2
        have e2 := s2 _ _ e1
        have s02 := s1.trans s2
        cases ht : takePlain ws (i + 2) with
        | none =>
          rw [ht] at t2 q
          obtain rfl : v = .non := t2
          walk_at "ss"
          refine iteT ?_
          refine iteT ?_
          walk_at "ss"
          exact q _ H2 s02 rfl
        | some r =>
          obtain ⟨x, j⟩ := r
          rw [ht] at t2 q
          dsimp only at q
          obtain ⟨a, u, rfl, ea, tu⟩ := t2
          walk_at "ss"
          refine iteF ?_
          walk_at "ss"
          refine o_ixL (lst_of ea) (atI_nat (j := 1) rfl) ?_
          walk_at "ss"
          refine b_lenL (lst_of e2) ?_
          rw [List.length_map]
          walk_at "ss"
          by_cases hj : j < ws.length
          · rw [decide_eq_false (show ¬ (ws.length : Int) ≤ (j : Int) by omega)]
            refine iteF ?_
            walk_at "ss"
            refine o_ixL (lst_of ea) (atI_nat (j := 1) rfl) ?_
            refine o_ixL (lst_of e2) (strs_at hj) ?_
            walk_at "ss"
            refine o_neS rfl ?_
            walk_at "ss"
            by_cases hc : wordAt ws j = "]"
            · rw [if_pos hc] at q
              rw [show decide (V.str (wordAt ws j) = V.str ("]" : Str)) = true from decide_eq_true (congrArg V.str hc)]
              refine iteF ?_
              walk_at "ss"
              refine o_ixL (lst_of ea) (atI_nat (j := 1) rfl) ?_
              walk_at "ss"
              refine ⟨p, ws, j + 1, rfl, e2, sm, fun v H3 s3 t3 => ?_⟩
              dsimp only at t3
              have e3 := s3 _ _ e2
              cases hp : takePlus ws (j + 1) with
              | none =>
                rw [hp] at t3 q
                obtain rfl : v = .non := t3
                walk_at "ss"
                refine iteT ?_
                walk_at "ss"
                exact q _ H3 (s02.trans s3) rfl
              | some r =>
                obtain ⟨n, k⟩ := r
                rw [hp] at t3 q
                obtain ⟨a2, u2, rfl, ea2, tu2⟩ := t3
                obtain rfl := tp_int tu2
                walk_at "ss"
                refine iteF ?_
                walk_at "ss"
                refine o_ixL (lst_of e3) (strs_at hi) ?_
                walk_at "ss"
                refine o_ixL (lst_of (s3 _ _ ea)) (atI_nat (j := 0) rfl) ?_
                walk_at "ss"
                refine o_ixL (lst_of ea2) (atI_nat (j := 0) rfl) ?_
                walk_at "ss"
                refine n_obj (lz (by simp)) fun p4 H4 n4 s4 e4 => ?_
                walk_at "ss"
                refine o_ixL (lst_of (s4 _ _ ea2)) (atI_nat (j := 1) rfl) ?_
                walk_at "ss"
                refine n_obj (lz (by simp)) fun p5 H5 n5 s5 e5 => ?_
                exact q _ H5 (((s02.trans s3).trans s4).trans s5) (lp_mk e5 (.tup (s5 _ _ e4) (.cons (.str _) (.cons (.str _) (.cons (Tp.tk ((s3.trans s4).trans s5).tk tu) (.cons (.int _) .nil))))))
            · rw [if_neg hc] at q
              rw [show decide (V.str (wordAt ws j) = V.str ("]" : Str)) = false from decide_eq_false (fun h => hc (V.str.inj h))]
              refine iteT ?_
              walk_at "ss"
              exact q _ H2 s02 rfl
          · rw [wordAt_out (i := j) (by omega), if_neg (by decide +kernel)] at q
            rw [decide_eq_true (show (ws.length : Int) ≤ (j : Int) by omega)]
            refine iteT ?_
            refine iteT ?_
            walk_at "ss"
            exact q _ H2 s02 rfl
      · rw [if_neg (fun h => hb h.2)] at q
        rw [show decide (V.str (wordAt ws (i + 1)) = V.str ("[" : Str)) = false from decide_eq_false (fun h => hb (V.str.inj h))]
        refine iteT ?_
        walk_at "ss"
        exact ⟨p, ws, i, rfl, e1, sm, fun v H2 s2 t2 => q v H2 (s1.trans s2) t2⟩
    · rw [if_neg (fun h => hn h.1)] at q
      rw [Bool.eq_false_iff.mpr hn]
      refine iteT ?_
      refine iteT ?_
      walk_at "ss"
      exact ⟨p, ws, i, rfl, e1, sm, fun v H2 s2 t2 => q v H2 (s1.trans s2) t2⟩
  · rw [wordAt_out (i := i + 1) (by omega), if_neg (fun h => absurd h.2 (by decide +kernel))] at q
    rw [decide_eq_true (show (ws.length : Int) ≤ (i : Int) + 1 by omega)]
    refine iteT ?_
    refine iteT ?_
    walk_at "ss"
    exact ⟨p, ws, i, rfl, e, sm, fun v H2 s2 t2 => q v H2 s2 t2⟩
/-- data of ints, texts, None and tuples of these, at most so deep -/
def DOk : Nat → PyData → Prop
  | 0, _ => False
  | n + 1, d => match d with
    | .none => True
    | .int _ => True
    | .str _ => True
    | .tuple ds => ds.length ≤ 100 ∧ ∀ x ∈ ds, DOk n x
    | _ => False
def spSame (n : Nat) : Sp := fun vs H Q _ => ∃ (v u : V) (d : PyData), vs = [v, u] ∧ Tp H v d ∧ Tp H u d ∧ DOk n d ∧ Q (.bl true) H
theorem k_law_same (T : Tx K mg) : ∀ n : Nat, C8.Cal P w K mg base n "_law_same" (spSame n) []
  | 0 => cal_never (ps := ["found", "expected"]) T.d_law_same (fun _ _ F => F.bindsN fun _ _ _ _ _ _ us hl => match us, hl with | [_, _], _ => rfl) (fun vs H Q E => by
    rintro ⟨v, u, d, _, _, _, h, _⟩
    exact h)
  | n + 1 => by
    have ih := k_law_same T n
    refine cal_of (N := n_law_same) T.d_law_same sc_law_same (fun _ _ F => F.bindsN fun _ _ _ _ _ _ us hl => match us, hl with | [_, _], _ => rfl) (fun vs H Q E h => ?_) (fun f cdv A outer s H vs Q E hr h => ?_)
    · obtain ⟨v, u, d, rfl, _⟩ := h
      rfl
    · obtain ⟨v, u, d, rfl, tv, tu, hd, q⟩ := h
      refine ⟨_, (pss_cons (ps_if (pt_tr (pe_callB (call_isi : CallR _ _ (rIsi K)) (by rfl) T.z_isinstance (by decide +kernel) (pa_cons (pv 1) (pa_cons (pe_bltn (v := .ty "tuple") (by rfl) T.z_tuple (by decide +kernel) rfl) pa_nil))) : PT _ _ (tTr K _)) (pss_cons (ps_if (PW.pt (pw_or (pt_not (pt_tr (pe_callB (call_isi : CallR _ _ (rIsi K)) (by rfl) T.z_isinstance (by decide +kernel) (pa_cons (pv 0) (pa_cons (pe_bltn (v := .ty "tuple") (by rfl) T.z_tuple (by decide +kernel) rfl) pa_nil))) : PT _ _ (tTr K _))) (pw_or1 (pt_cmpR (op_ne2 hr.units : OpR _ _ (rNe2 K)) (pe_callB (call_len2 : CallR _ _ (rLn K)) (by rfl) T.z_len (by decide +kernel) (pa_cons (pv 0) pa_nil)) (pe_callB (call_len2 : CallR _ _ (rLn K)) (by rfl) T.z_len (by decide +kernel) (pa_cons (pv 1) pa_nil)) (nomark _))))) (pss_one (ps_ret pe_bl)) pss_nil) (pss_cons (ps_for PassesOwn.never rfl (pi_range1 (by rfl) T.z_range (pa_cons (pe_callB (call_len2 : CallR _ _ (rLn K)) (by rfl) T.z_len (by decide +kernel) (pa_cons (pv 1) pa_nil)) pa_nil)) (pg_name (i := 2) sc_law_same.nd rfl (Or.inl rfl)) (pss_one (ps_if (pt_not (pt_tr (C8.pe_c ih hr (by first | decide | omega) (by rfl) (pa_cons (pe_ix (ix_seq : IxR _ (rIx K)) (pv 0) (pv 2) (fun _ _ => rfl)) (pa_cons (pe_ix (ix_seq : IxR _ (rIx K)) (pv 1) (pv 2) (fun _ _ => rfl)) pa_nil))) : PT _ _ (tTr K _))) (pss_one (ps_ret pe_bl)) pss_nil))) (pss_one (ps_ret pe_bl)))) pss_nil) (pss_cons (ps_if (pt_tr (pe_callB (call_isi : CallR _ _ (rIsi K)) (by rfl) T.z_isinstance (by decide +kernel) (pa_cons (pv 1) (pa_cons (pe_bltn (v := .ty "str") (by rfl) T.z_str (by decide +kernel) rfl) pa_nil))) : PT _ _ (tTr K _)) (pss_one (ps_ret (pe_and (pe_callB (call_isi : CallR _ _ (rIsi K)) (by rfl) T.z_isinstance (by decide +kernel) (pa_cons (pv 0) (pa_cons (pe_bltn (v := .ty "str") (by rfl) T.z_str (by decide +kernel) rfl) pa_nil))) (pe_one (pe_cmpR (op_eq2 hr.units : OpR _ _ (rEq2 K)) (pv 0) (pv 1) (nomark _)))))) pss_nil) (pss_cons (ps_if (pt_cmpR op_isN2 (pv 1) pe_non (nomark _)) (pss_one (ps_ret (pe_cmpR op_isN2 (pv 0) pe_non (nomark _)))) pss_nil) (pss_one (ps_ret (pe_and (pe_callB (call_isi : CallR _ _ (rIsi K)) (by rfl) T.z_isinstance (by decide +kernel) (pa_cons (pv 0) (pa_cons (pe_bltn (v := .ty "int") (by rfl) T.z_int (by decide +kernel) rfl) pa_nil))) (pe_and (pe_not (pe_callB (call_isi : CallR _ _ (rIsi K)) (by rfl) T.z_isinstance (by decide +kernel) (pa_cons (pv 0) (pa_cons (pe_bltn (v := .ty "bool") (by rfl) T.z_bool (by decide +kernel) rfl) pa_nil)))) (pe_one (pe_cmpR (op_eq2 hr.units : OpR _ _ (rEq2 K)) (pv 0) (pv 1) (nomark _)))))))))), ?_⟩
      walk_at "ss"
      cases d with
      | none =>
        cases tv
        cases tu
        refine b_isi (.base .non) (b := false) (kit_ty (by decide +kernel)) ?_
        walk_at "ss"
        refine iteF ?_
        walk_at "ss"
        refine b_isi (.base .non) (b := false) (kit_ty (by decide +kernel)) ?_
        walk_at "ss"
        refine iteF ?_
        walk_at "ss"
        refine iteT ?_
        walk_at "ss"
        exact q
      | int i =>
        cases tv
        cases tu
        refine b_isi (.base (.int _)) (b := false) (kit_ty (by decide +kernel)) ?_
        walk_at "ss"
        refine iteF ?_
        walk_at "ss"
        refine b_isi (.base (.int _)) (b := false) (kit_ty (by decide +kernel)) ?_
        walk_at "ss"
        refine iteF ?_
        walk_at "ss"
        refine iteF ?_
        walk_at "ss"
        refine b_isi (.base (.int _)) (b := true) (kit_ty (by decide +kernel)) ?_
        walk_at "ss"
        refine iteT ?_
        walk_at "ss"
        refine b_isi (.base (.int _)) (b := false) (kit_ty (by decide +kernel)) ?_
        walk_at "ss"
        refine iteT ?_
        walk_at "ss"
        refine o_eqS rfl ?_
        rw [decide_eq_true rfl]
        exact q
      | str z =>
        cases tv
        cases tu
        refine b_isi (.base (.str _)) (b := false) (kit_ty (by decide +kernel)) ?_
        walk_at "ss"
        refine iteF ?_
        walk_at "ss"
        refine b_isi (.base (.str _)) (b := true) (kit_ty (by decide +kernel)) ?_
        walk_at "ss"
        refine iteT ?_
        walk_at "ss"
        refine b_isi (.base (.str _)) (b := true) (kit_ty (by decide +kernel)) ?_
        walk_at "ss"
        refine iteT ?_
        walk_at "ss"
        refine o_eqS rfl ?_
        rw [decide_eq_true rfl]
        exact q
      | tuple ds =>
        cases tv with
        | @tup a xs _ ea ra =>
        cases tu with
        | @tup b ys _ eb rb =>
        have la := ra.length
        have lb := rb.length
        have hd1 : ds.length ≤ 100 := hd.1
        refine b_isi (.base (.tup eb)) (b := true) (kit_ty (by decide +kernel)) ?_
        walk_at "ss"
        refine iteT ?_
        walk_at "ss"
        refine b_isi (.base (.tup ea)) (b := true) (kit_ty (by decide +kernel)) ?_
        walk_at "ss"
        refine iteF ?_
        walk_at "ss"
        refine b_lenT (tup_of ea) ?_
        walk_at "ss"
        refine b_lenT (tup_of eb) ?_
        rw [la, lb]
        refine o_neS rfl ?_
        walk_at "ss"
        rw [decide_eq_true rfl]
        refine iteF ?_
        walk_at "ss"
        refine b_lenT (tup_of eb) ?_
        rw [lb]
        walk_at "ss"
        refine k_r1 (by omega) (by omega) ?_
        rw [Int.toNat_natCast]
        refine f_range (fun i σ H' => H' = H ∧ ∃ x, σ = [some (.ref a), some (.ref b), x]) ⟨rfl, _, rfl⟩ (fun i σ H' hi p => ?_) (fun σ H' p => ?_)
        · obtain ⟨rfl, x, rfl⟩ := p
          obtain ⟨v1, g1, t1⟩ := ra.get (List.getElem?_eq_getElem hi)
          obtain ⟨v2, g2, t2⟩ := rb.get (List.getElem?_eq_getElem hi)
          walk_at "ss"
          refine o_ixT (tup_of ea) (atI_of (j := i) (by omega) g1) ?_
          walk_at "ss"
          refine o_ixT (tup_of eb) (atI_of (j := i) (by omega) g2) ?_
          walk_at "ss"
          refine ⟨v1, v2, _, rfl, t1, t2, hd.2 _ (List.getElem_mem hi), ?_⟩
          walk_at "ss"
          refine iteF ?_
          walk_at "ss"
          exact ⟨rfl, _, rfl⟩
        · obtain ⟨rfl, x, rfl⟩ := p
          walk_at "ss"
          exact q
      | bool b => exact hd.elim
      | list ds => exact hd.elim
      | dict kvs => exact hd.elim
end
end K02
namespace K02
open PySem PySem.Spec PyProof.Rows L2 Wy WM W3 W4 W5

-- REC write_expression 2
-- REC _law_text 2
-- REC _law_words_of 2
-- REC _law_same 3
theorem dok_leaf {n : Nat} {x : Str} : DOk (n + 1) (.str x) := trivial
theorem dok_tup {n : Nat} {ds : List PyData} (h : ds.length ≤ 100) (k : ∀ x ∈ ds, DOk n x) : DOk (n + 1) (.tuple ds) := ⟨h, k⟩
theorem dok_flat {e : Ex} (h : dep e = 0) : DOk 2 e.d := by
  cases e with
  | num n =>
    refine dok_tup (by show 2 ≤ 100; omega) fun x hx => ?_
    simp only [List.mem_cons, List.not_mem_nil, or_false] at hx
    rcases hx with rfl | rfl <;> trivial
  | var y p =>
    refine dok_tup (by show 3 ≤ 100; omega) fun x hx => ?_
    simp only [List.mem_cons, List.not_mem_nil, or_false] at hx
    rcases hx with rfl | rfl | rfl <;> trivial
  | item y i p => cases h
theorem dok_dep {e : Ex} (h : dep e ≤ 1) : DOk 3 e.d := by
  cases e with
  | num n =>
    refine dok_tup (by show 2 ≤ 100; omega) fun x hx => ?_
    simp only [List.mem_cons, List.not_mem_nil, or_false] at hx
    rcases hx with rfl | rfl <;> trivial
  | var y p =>
    refine dok_tup (by show 3 ≤ 100; omega) fun x hx => ?_
    simp only [List.mem_cons, List.not_mem_nil, or_false] at hx
    rcases hx with rfl | rfl | rfl <;> trivial
  | item y i p =>
    have hi : dep i = 0 := by
      have : dep i + 1 ≤ 1 := h
      omega
    refine dok_tup (by show 4 ≤ 100; omega) fun x hx => ?_
    simp only [List.mem_cons, List.not_mem_nil, or_false] at hx
    rcases hx with rfl | rfl | rfl | rfl
    · trivial
    · trivial
    · exact dok_flat hi
    · trivial
theorem takePlain_dep {ws : List Str} {i j : Nat} {e : Ex} (h : takePlain ws i = some (e, j)) : dep e = 0 := by
  unfold takePlain at h
  split at h
  · split at h
    · cases h
    · cases h
      rfl
  · split at h
    · cases h
    · cases h
      rfl
theorem takeExpr_dep {ws : List Str} {i j : Nat} {e : Ex} (h : takeExpr ws i = some (e, j)) : dep e ≤ 1 := by
  unfold takeExpr at h
  split at h
  · split at h
    · cases h
    · rename_i x k hx
      split at h
      · split at h
        · cases h
        · cases h
          have := takePlain_dep hx
          show dep x + 1 ≤ 1
          omega
      · cases h
  · have := takePlain_dep h
    omega
theorem dok_read {ws : List Str} : DOk 3 (oD (readW ws)) := by
  unfold readW
  cases h : takeExpr ws 0 with
  | none => trivial
  | some r =>
    obtain ⟨e, j⟩ := r
    show DOk 3 (oD (if j = ws.length then some e else none))
    split
    · exact dok_dep (takeExpr_dep h)
    · trivial
theorem plusW_ok {p : Int} (h : p.natAbs < 10 ^ 10) : ∀ y ∈ plusW p, Tok y ∧ y.length ≤ 13 := by
  unfold plusW
  split
  · intro y hy
    cases hy
  · intro y hy
    simp only [List.mem_cons, List.not_mem_nil, or_false] at hy
    rcases hy with rfl | rfl
    · split
      · exact ⟨tok_sho (c := 43) (by decide +kernel) (by decide +kernel), by decide +kernel⟩
      · exact ⟨tok_sho (c := 45) (by decide +kernel) (by decide +kernel), by decide +kernel⟩
    · exact ⟨tok_num _, by have := numS_len10 h; omega⟩
theorem plain_ok {e : Ex} (h : Plain e) : ∀ y ∈ wordsE e, Tok y ∧ y.length ≤ 13 := by
  cases e with
  | num n =>
    have hn : n.natAbs < 10 ^ 10 := h
    show ∀ y ∈ (if n < 0 then _ else _ : List Str), _
    split
    · intro y hy
      simp only [List.mem_cons, List.not_mem_nil, or_false] at hy
      rcases hy with rfl | rfl
      · exact ⟨tok_sho (c := 45) (by decide +kernel) (by decide +kernel), by decide +kernel⟩
      · exact ⟨tok_num _, by have := numS_len10 (n := (-n).toNat) (by omega); omega⟩
    · intro y hy
      rw [List.mem_singleton.mp hy]
      exact ⟨tok_num _, by have := numS_len10 (n := n.toNat) (by omega); omega⟩
  | var x p =>
    intro y hy
    rcases List.mem_cons.mp hy with rfl | hy
    · exact ⟨tok_name h.1, by have := (name_parts h.1).2.1; omega⟩
    · exact plusW_ok h.2 y hy
  | item x i p => exact h.elim
theorem good_ok {e : Ex} (h : Good e) : WOk 8 (wordsE e) := by
  have key : ∀ y ∈ wordsE e, Tok y ∧ y.length ≤ 13 := by
    cases e with
    | num n => exact plain_ok (e := .num n) h
    | var x p => exact plain_ok (e := .var x p) h
    | item x i p =>
      intro y hy
      have hy : y ∈ [x, ("[" : Str)] ++ wordsE i ++ [("]" : Str)] ++ plusW p := hy
      rcases List.mem_append.mp hy with hy | hy
      · rcases List.mem_append.mp hy with hy | hy
        · rcases List.mem_append.mp hy with hy | hy
          · simp only [List.mem_cons, List.not_mem_nil, or_false] at hy
            rcases hy with rfl | rfl
            · exact ⟨tok_name h.1, by have := (name_parts h.1).2.1; omega⟩
            · exact ⟨tok_sho (c := 91) (by decide +kernel) (by decide +kernel), by decide +kernel⟩
          · exact plain_ok h.2.1 y hy
        · rw [List.mem_singleton.mp hy]
          exact ⟨tok_sho (c := 93) (by decide +kernel) (by decide +kernel), by decide +kernel⟩
      · exact plusW_ok h.2.2 y hy
  exact ⟨wordsE_len h, fun y hy => (key y hy).1, fun y hy => (key y hy).2⟩
theorem wordsE_ne (e : Ex) : wordsE e ≠ [] := by
  cases e with
  | num n =>
    show (if n < 0 then _ else _ : List Str) ≠ []
    split <;> simp
  | var x p => simp [wordsE]
  | item x i p => simp [wordsE]
/-! no '=' in a written expression -/
theorem no61_glue : ∀ {l : List (List Nat × Nat)}, (∀ q ∈ l, 61 ∉ q.1) → 61 ∉ glue l
  | [], _ => by simp [glue]
  | (w, n) :: r, h => by
    show 61 ∉ w ++ (List.replicate n 32 ++ glue r)
    intro hm
    rcases List.mem_append.mp hm with hm | hm
    · exact h (w, n) List.mem_cons_self hm
    · rcases List.mem_append.mp hm with hm | hm
      · have := List.eq_of_mem_replicate hm
        omega
      · exact no61_glue (fun q hq => h q (List.mem_cons_of_mem _ hq)) hm
theorem no61_num (n : Nat) : 61 ∉ TL.numL n := fun h => by
  have := TL.numL_digits n 61 h
  omega
theorem no61_name {x : Str} (h : nameW x = true) : 61 ∉ tl x := fun hm => by
  have := (name_parts h).2.2.2 61 hm
  revert this
  decide +kernel
theorem no61_plus (p : Int) : ∀ q ∈ plusG p, 61 ∉ q.1 := by
  unfold plusG
  split
  · intro q hq
    cases hq
  · intro q hq
    simp only [List.mem_cons, List.not_mem_nil, or_false] at hq
    rcases hq with rfl | rfl
    · show 61 ∉ [if 0 < p then 43 else 45]
      split <;> simp
    · exact no61_num _
theorem no61_plain {e : Ex} (h : Plain e) : ∀ q ∈ plainG e, 61 ∉ q.1 := by
  cases e with
  | num n =>
    show ∀ q ∈ (if n < 0 then _ else _ : List (List Nat × Nat)), _
    split
    · intro q hq
      simp only [List.mem_cons, List.not_mem_nil, or_false] at hq
      rcases hq with rfl | rfl
      · simp
      · exact no61_num _
    · intro q hq
      rw [List.mem_singleton.mp hq]
      exact no61_num _
  | var x p =>
    intro q hq
    rcases List.mem_cons.mp hq with rfl | hq
    · exact no61_name h.1
    · exact no61_plus p q hq
  | item x i p => exact h.elim
theorem no61_good {e : Ex} (h : Good e) : 61 ∉ tl (textE e) := by
  rw [good_tl h]
  refine no61_glue ?_
  cases e with
  | num n => exact no61_plain (e := .num n) h
  | var x p => exact no61_plain (e := .var x p) h
  | item x i p =>
    intro q hq
    have hq : q ∈ (tl x, 0) :: ([91], 0) :: (plainG i ++ ([93], gapP p) :: plusG p) := hq
    rcases List.mem_cons.mp hq with rfl | hq
    · exact no61_name h.1
    · rcases List.mem_cons.mp hq with rfl | hq
      · simp
      · rcases List.mem_append.mp hq with hq | hq
        · exact no61_plain h.2.1 q hq
        · rcases List.mem_cons.mp hq with rfl | hq
          · simp
          · exact no61_plus p q hq
def forB (x : V) : Bool := match x with
  | .str y => match tl y with | [c] => decide (c ≠ 61) && !(decide (c ∈ tl LET) || decide (c ∈ tl DIG) || decide (c ∈ tl SHO) || decide (c = 32)) | _ => false
  | _ => false
theorem for_item {xs : List V} (h : xs.all forB = true) {j : Nat} (hj : j < xs.length) : ∃ (y : Str) (c : Nat), xs[j]? = some (.str y) ∧ tl y = [c] ∧ c ≠ 61 ∧ ¬ OKC c := by
  have h1 := List.all_eq_true.mp h xs[j] (List.getElem_mem hj)
  cases e : xs[j] with
  | str y =>
    rw [e] at h1
    have h1 : (match tl y with | [c] => decide (c ≠ 61) && !(decide (c ∈ tl LET) || decide (c ∈ tl DIG) || decide (c ∈ tl SHO) || decide (c = 32)) | _ => false) = true := h1
    split at h1
    · rename_i c ec
      simp only [Bool.and_eq_true, Bool.not_eq_true', Bool.or_eq_false_iff, decide_eq_true_eq, decide_eq_false_iff_not] at h1
      refine ⟨y, c, by rw [List.getElem?_eq_getElem hj, e], ec, h1.1, fun h => ?_⟩
      rcases h with h | h | h | h
      · exact h1.2.1.1.1 h
      · exact h1.2.1.1.2 h
      · exact h1.2.1.2 h
      · exact h1.2.2 h
    · cases h1
  | _ =>
    rw [e] at h1
    cases h1
theorem cutS_take (z : Str) (j : Nat) : tl (cutS z none (some (j : Int))) = (tl z).take j := by
  unfold cutS
  rw [HT.sIx_none, HT.sIx_nat]
  show (((z.cps.toList.drop 0).take (min j z.length - 0)).toArray).toList = z.cps.toList.take j
  rw [List.drop_zero, Nat.sub_zero]
  by_cases h : j ≤ z.length
  · rw [Nat.min_eq_left h]
  · have hl := str_len z
    rw [Nat.min_eq_right (by omega), List.take_of_length_le (by omega), List.take_of_length_le (by omega)]
theorem cutS_drop (z : Str) (j : Nat) : tl (cutS z (some (j : Int)) none) = (tl z).drop j := by
  unfold cutS
  rw [HT.sIx_none, HT.sIx_nat]
  show (((z.cps.toList.drop (min j z.length)).take (z.length - min j z.length)).toArray).toList = z.cps.toList.drop j
  have hl := str_len z
  by_cases h : j ≤ z.length
  · rw [Nat.min_eq_left h, List.take_of_length_le (by rw [List.length_drop]; omega)]
  · rw [Nat.min_eq_right (by omega), Nat.sub_self, List.take_zero, List.drop_of_length_le (by omega)]
theorem read_spaced {z : Str} {e : Ex} (h : Good e) (hz : wordsW z = some (wordsE e)) : readT z = some e := by
  unfold readT
  rw [hz]
  exact read_good h
section
variable {P : Program} {w : World} {K : PySem.W.Frag} {mg : Str → Option Value} {base : Heap}
theorem ok_law (T : Tx K mg) {f : Addr} {fd : FuncData} (F : FunD K "law" "law" (defArgs s_law) (defBody s_law) (defScope s_law) [] [] f fd) : FnOk P w K mg base CX0 9 f fd ["script"] (spLaw K) := by
  refine fn_of2 (N := n_law) F sc_law (fun vs H Q E h => ?_) (fun f cdv A outer s H vs Q E hr h => ?_)
  · obtain ⟨a, ns, rfl, _⟩ := h
    rfl
  · obtain ⟨a, ns, rfl, hS, hl, q⟩ := h
    refine ⟨_, (pss_cons (ps_asg (pe_lst (pa_cons (C8.pe_c (k_law_draws T) hr (by first | decide | omega) (by rfl) (pa_cons (pv 0) (pa_cons pe_int pa_nil))) (pa_cons pe_int pa_nil))) (pg_name (i := 1) sc_law.nd rfl (Or.inl rfl))) (pss_cons (ps_asg (C8.pe_c (k_law_expression T) hr (by first | decide | omega) (by rfl) (pa_cons (pv 1) pa_nil)) (pg_name (i := 2) sc_law.nd rfl (Or.inl rfl))) (pss_cons (ps_asg (C8.pe_c (k_law_text T 2) hr (by first | decide | omega) (by rfl) (pa_cons (pv 2) pa_nil)) (pg_name (i := 3) sc_law.nd rfl (Or.inl rfl))) (pss_cons (ps_asg (C8.pe_c (k_write_expression T 2) hr (by first | decide | omega) (by rfl) (pa_cons (pv 2) pa_nil)) (pg_name (i := 4) sc_law.nd rfl (Or.inl rfl))) (pss_cons (ps_if (PW.pt (pw_or (pt_not (pt_tr (pe_callB (call_isi : CallR _ _ (rIsi K)) (by rfl) T.z_isinstance (by decide +kernel) (pa_cons (pv 4) (pa_cons (pe_bltn (v := .ty "str") (by rfl) T.z_str (by decide +kernel) rfl) pa_nil))) : PT _ _ (tTr K _))) (pw_or (pt_cmpR (op_ne2 hr.units : OpR _ _ (rNe2 K)) (pv 4) (pv 3) (nomark _)) (pw_or1 (pt_not (pt_tr (C8.pe_c (k_law_same T 3) hr (by first | decide | omega) (by rfl) (pa_cons (C8.pe_c (k_read_expression T) hr (by first | decide | omega) (by rfl) (pa_cons (pv 3) pa_nil)) (pa_cons (pv 2) pa_nil))) : PT _ _ (tTr K _))))))) (pss_one (ps_ret pe_bl)) pss_nil) (pss_cons (ps_asg (C8.pe_c (k_law_words_of T 2) hr (by first | decide | omega) (by rfl) (pa_cons (pv 2) pa_nil)) (pg_name (i := 5) sc_law.nd rfl (Or.inl rfl))) (pss_cons (ps_if (pt_not (pt_tr (C8.pe_c (k_law_same T 3) hr (by first | decide | omega) (by rfl) (pa_cons (C8.pe_c (k_read_expression T) hr (by first | decide | omega) (by rfl) (pa_cons (C8.pe_c (k_law_spaced T) hr (by first | decide | omega) (by rfl) (pa_cons (pv 1) (pa_cons (pv 5) pa_nil))) pa_nil)) (pa_cons (pv 2) pa_nil))) : PT _ _ (tTr K _))) (pss_one (ps_ret pe_bl)) pss_nil) (pss_cons (ps_asg (C8.pe_c (k_law_take T) hr (by first | decide | omega) (by rfl) (pa_cons (pv 1) (pa_cons (pe_op op_add3 (pe_callB (call_len2 : CallR _ _ (rLn K)) (by rfl) T.z_len (by decide +kernel) (pa_cons (pv 3) pa_nil)) pe_int) pa_nil))) (pg_name (i := 6) sc_law.nd rfl (Or.inl rfl))) (pss_cons (ps_asg (pe_ix (ix_seq : IxR _ (rIx K)) (pe_lst (pa_cons pe_str (pa_cons pe_str (pa_cons pe_str (pa_cons pe_str (pa_cons pe_str (pa_cons pe_str (pa_cons pe_str (pa_cons pe_str (pa_cons pe_str pa_nil)))))))))) (C8.pe_c (k_law_take T) hr (by first | decide | omega) (by rfl) (pa_cons (pv 1) (pa_cons pe_int pa_nil))) (fun _ _ => rfl)) (pg_name (i := 7) sc_law.nd rfl (Or.inl rfl))) (pss_cons (ps_if (PW.pt (pw_or (pt_cmpR op_ntN2 (C8.pe_c (k_read_expression T) hr (by first | decide | omega) (by rfl) (pa_cons (pe_op op_add3 (pe_op op_add3 (pe_slice (sl_2 : SlR _ (rSl2 K)) (pv 3) po_none (po_some (pv 6))) (pv 7)) (pe_slice (sl_2 : SlR _ (rSl2 K)) (pv 3) (po_some (pv 6)) po_none)) pa_nil)) pe_non (nomark _)) (pw_or1 (pt_cmpR op_ntN2 (C8.pe_c (k_read_expression T) hr (by first | decide | omega) (by rfl) (pa_cons pe_str pa_nil)) pe_non (nomark _))))) (pss_one (ps_ret pe_bl)) pss_nil) (pss_cons (ps_for PassesOwn.never rfl (pi_range1 (by rfl) T.z_range (pa_cons pe_int pa_nil)) (pg_name (i := 8) sc_law.nd rfl (Or.inl rfl)) (pss_cons (ps_asg (C8.pe_c (k_law_spoilt T) hr (by first | decide | omega) (by rfl) (pa_cons (pv 1) (pa_cons (pv 5) pa_nil))) (pg_name (i := 5) sc_law.nd rfl (Or.inl rfl))) (pss_cons (ps_asg pe_non (pg_name (i := 9) sc_law.nd rfl (Or.inl rfl))) (pss_cons (ps_asg (C8.pe_c (k_law_read T) hr (by first | decide | omega) (by rfl) (pa_cons (pv 5) (pa_cons pe_int pa_nil))) (pg_name (i := 10) sc_law.nd rfl (Or.inl rfl))) (C8.pss_cut (ps_if (PW.pt (pw_and (pt_cmpR op_ntN2 (pv 10) pe_non (nomark _)) (pw_and1 (pt_cmpR (op_eq2 hr.units : OpR _ _ (rEq2 K)) (pe_ix (ix_seq : IxR _ (rIx K)) (pv 10) pe_int (fun _ _ => rfl)) (pe_callB (call_len2 : CallR _ _ (rLn K)) (by rfl) T.z_len (by decide +kernel) (pa_cons (pv 5) pa_nil)) (nomark _))))) (pss_one (ps_asg (pe_ix (ix_seq : IxR _ (rIx K)) (pv 10) pe_int (fun _ _ => rfl)) (pg_name (i := 9) sc_law.nd rfl (Or.inl rfl)))) pss_nil) (pss_cons (ps_if (pt_not (pt_tr (C8.pe_c (k_law_same T 3) hr (by first | decide | omega) (by rfl) (pa_cons (C8.pe_c (k_read_expression T) hr (by first | decide | omega) (by rfl) (pa_cons (C8.pe_c (k_law_spaced T) hr (by first | decide | omega) (by rfl) (pa_cons (pv 1) (pa_cons (pv 5) pa_nil))) pa_nil)) (pa_cons (pv 9) pa_nil))) : PT _ _ (tTr K _))) (pss_one (ps_ret pe_bl)) pss_nil) (pss_one (ps_if (pt_cmpR (op_eq2 hr.units : OpR _ _ (rEq2 K)) (pe_callB (call_len2 : CallR _ _ (rLn K)) (by rfl) T.z_len (by decide +kernel) (pa_cons (pv 5) pa_nil)) pe_int (nomark _)) (pss_one (ps_ret pe_bl)) pss_nil)))))))) (pss_one (ps_ret pe_bl))))))))))))), ?_⟩
    walk_at "ss"
    refine ⟨a, ns, 120, rfl, hS, hl, by omega, by omega, fun d H1 ds s1 nd e1 => ?_⟩
    walk_at "ss"
    refine n_obj (lz (by simp)) fun h H2 nh s2 e2 => ?_
    have hh2 : HandAt H2 h d := ⟨0, ds, e2, Int.le_refl 0, s2 _ _ e1⟩
    walk_at "ss"
    refine ⟨h, d, rfl, hh2, fun ve e H3 hg te k3 hh3 => ?_⟩
    have lt := good_len hg
    have hdp := good_dep hg
    walk_at "ss"
    refine ⟨ve, e, rfl, te, hg, by omega, fun H4 s4 => ?_⟩
    have te4 := Tp.tk s4.tk te
    have hh4 := hh3.same s4
    walk_at "ss"
    refine ⟨ve, e, rfl, te4, hg, by omega, ?_⟩
    walk_at "ss"
    refine b_isi (.base (.str _)) (b := true) (kit_ty (by decide +kernel)) ?_
    walk_at "ss"
    refine iteF ?_
    walk_at "ss"
    refine o_neS rfl ?_
    walk_at "ss"
    rw [decide_eq_true rfl]
    refine iteF ?_
    walk_at "ss"
    refine ⟨textE e, rfl, by omega, fun v5 H5 s5 t5 => ?_⟩
    rw [read_spaced hg (good_words hg)] at t5
    have te5 := Tp.tk s5.tk te4
    have hh5 := hh4.same s5
    walk_at "ss"
    refine ⟨v5, ve, _, rfl, t5, te5, dok_dep hdp, ?_⟩
    walk_at "ss"
    refine iteF ?_
    walk_at "ss"
    refine ⟨ve, e, rfl, te5, hg, by omega, fun p6 H6 s6 n6 e6 => ?_⟩
    have te6 := Tp.tk s6.tk te5
    have hh6 := hh5.same s6
    walk_at "ss"
    have wo := good_ok hg
    have wo50 : WOk 50 (wordsE e) := ⟨Nat.le_trans wo.len (by decide), wo.tok, wo.short⟩
    refine ⟨h, d, p6, wordsE e, rfl, hh6, e6, wo50, fun z H7 wz lz7 k7 hh7 => ?_⟩
    have te7 := Tp.tk (hh6.keep_tk k7) te6
    have e7 := k7 p6 _ (list_ne_hand hh6 e6) e6
    refine ⟨z, rfl, by omega, fun v8 H8 s8 t8 => ?_⟩
    rw [read_spaced hg wz] at t8
    have te8 := Tp.tk s8.tk te7
    have hh8 := hh7.same s8
    have e8 := s8 _ _ e7
    walk_at "ss"
    refine ⟨v8, ve, _, rfl, t8, te8, dok_dep hdp, ?_⟩
    walk_at "ss"
    refine iteF ?_
    walk_at "ss"
    refine b_lenS (lz (by omega)) ?_
    walk_at "ss"
    refine ⟨h, d, _, rfl, hh8, by omega, fun r H9 r0 r1 c9 hh9 => ?_⟩
    obtain ⟨j, hj⟩ : ∃ j : Nat, r = (j : Int) := ⟨r.toNat, by omega⟩
    subst hj
    have e9 := c9.at e8 (list_ne_hand hh8 e8)
    walk_at "ss"
    refine n_obj (lz (by simp)) fun p10 H10 n10 s10 e10 => ?_
    have nn10 := hh9.new n10
    walk_at "ss"
    refine ⟨h, d, _, rfl, hh9.same s10, by omega, fun r2 H11 r3 r4 c11 hh11 => ?_⟩
    obtain ⟨j2, hj2⟩ : ∃ j : Nat, r2 = (j : Int) := ⟨r2.toNat, by omega⟩
    subst hj2
    obtain ⟨y, c, gy, ey, c61, nok⟩ := for_item (xs := [.str "A", .str "Z", .str "_", .str ".", .str "\n", .str "\t", .str "*", .str "!", .str "{"]) (by decide +kernel) (j := j2) (show j2 < 9 by omega)
    refine o_ixL (lst_of (c11.at e10 nn10.1.symm)) (atI_nat gy) ?_
    have ly : y.length = 1 := by rw [str_len, show y.cps.toList = [c] from ey]; rfl
    have e11 := c11.at (s10 _ _ e9) (list_ne_hand (hh9.same s10) (s10 _ _ e9))
    walk_at "ss"
    have lc1 := cutS_length (textE e) none (some (j : Int))
    have lc2 := cutS_length (textE e) (some (j : Int)) none
    refine l_S (lz (by omega)) ?_
    walk_at "ss"
    refine o_addS (lz (by omega)) ?_
    walk_at "ss"
    refine l_S (lz (by omega)) ?_
    refine o_addS (lz (by rw [app_len]; omega)) ?_
    walk_at "ss"
    have bad : readT (cutS (textE e) none (some (j : Int)) ++ y ++ cutS (textE e) (some (j : Int)) none) = none := by
      unfold readT
      have no := no61_good hg
      rw [words_bad]
      · rw [tl_app, tl_app, cutS_take, cutS_drop, ey]
        intro hm
        rcases List.mem_append.mp hm with hm | hm
        · rcases List.mem_append.mp hm with hm | hm
          · exact no (List.mem_of_mem_take hm)
          · exact c61 (List.mem_singleton.mp hm).symm
        · exact no (List.mem_of_mem_drop hm)
      · refine ⟨c, ?_, nok⟩
        rw [tl_app, tl_app, ey]
        exact List.mem_append_left _ (List.mem_append_right _ (List.mem_singleton.mpr rfl))
    refine ⟨_, rfl, by rw [app_len, app_len]; omega, fun v12 H12 s12 t12 => ?_⟩
    rw [bad] at t12
    obtain rfl := tp_none t12
    walk_at "ss"
    refine iteF ?_
    walk_at "ss"
    refine ⟨_, rfl, by decide +kernel, fun v13 H13 s13 t13 => ?_⟩
    rw [show readT ("" : Str) = none by decide +kernel] at t13
    obtain rfl := tp_none t13
    walk_at "ss"
    refine iteF ?_
    have hh13 := (hh11.same s12).same s13
    have e13 := s13 _ _ (s12 _ _ e11)
    walk_at "ss"
    refine k_r1 (by omega) (by omega) ?_
    refine f_range (fun i σ H' => HandAt H' h d ∧ ∃ (p : Addr) (ws : List Str) (x8 x9 x10 : Option V), H' p = some (.lst (ws.map V.str)) ∧ ws ≠ [] ∧ WOk (8 + i) ws ∧ σ = [some (.ref a), some (.ref h), some ve, some (.str (textE e)), some (.str (textE e)), some (.ref p), some (.int j), some (.str y), x8, x9, x10])
      ⟨hh13, p6, wordsE e, _, _, _, e13, wordsE_ne e, wo, rfl⟩ (fun i σ H14 hi hW => ?_) (fun σ H14 hW => ?_)
    · obtain ⟨hh14, p, ws, x8, x9, x10, e14, ne, wo, rfl⟩ := hW
      have hi3 : i < 3 := hi
      walk_at "ss"
      refine ⟨h, d, p, ws, rfl, hh14, e14, ne, ⟨Nat.le_trans wo.len (by omega), wo.tok, wo.short⟩, fun p' ws' H15 e15 wo' k15 hh15 => ?_⟩
      have wl : ws'.length ≤ 8 + (i + 1) := Nat.le_trans wo'.len (by have := wo.len; omega)
      have wo2 : WOk (8 + (i + 1)) ws' := ⟨wl, wo'.tok, wo'.short⟩
      walk_at "ss"
      refine ⟨p', ws', 0, rfl, e15, wo2.small (by omega), fun v16 H16 s16 t16 => ?_⟩
      dsimp only at t16
      have e16 := s16 _ _ e15
      walk_at "ss"
      refine s_cut (fun σ H' => H' = H16 ∧ ∃ u, Tp H16 u (oD (readW ws')) ∧ σ = [some (.ref a), some (.ref h), some ve, some (.str (textE e)), some (.str (textE e)), some (.ref p'), some (.int j), some (.str y), some (.int (0 + (i : Int))), some u, some v16]) ?_ (fun σ' H17 hM => ?_)
      · walk_at "ss"
        cases ht : takeExpr ws' 0 with
        | none =>
          rw [ht] at t16
          obtain rfl : v16 = .non := t16
          refine iteF ?_
          refine iteF ?_
          walk_at "ss"
          refine ⟨rfl, .non, ?_, rfl⟩
          unfold readW
          rw [ht]
          exact .non
        | some r =>
          obtain ⟨x, k⟩ := r
          rw [ht] at t16
          obtain ⟨b, u, rfl, eb, tu⟩ := t16
          refine iteT ?_
          walk_at "ss"
          refine o_ixL (lst_of eb) (atI_nat (j := 1) rfl) ?_
          walk_at "ss"
          refine b_lenL (lst_of e16) ?_
          rw [List.length_map]
          refine o_eqS rfl ?_
          walk_at "ss"
          by_cases hk : k = ws'.length
          · rw [show decide (V.int (k : Int) = V.int (ws'.length : Int)) = true from decide_eq_true (by rw [hk])]
            refine iteT ?_
            walk_at "ss"
            refine o_ixL (lst_of eb) (atI_nat (j := 0) rfl) ?_
            walk_at "ss"
            refine ⟨rfl, u, ?_, rfl⟩
            unfold readW wholeE
            rw [ht]
            dsimp only
            rw [if_pos hk]
            exact tu
          · rw [show decide (V.int (k : Int) = V.int (ws'.length : Int)) = false from decide_eq_false (fun h => hk (by have := V.int.inj h; omega))]
            refine iteF ?_
            walk_at "ss"
            refine ⟨rfl, .non, ?_, rfl⟩
            unfold readW wholeE
            rw [ht]
            dsimp only
            rw [if_neg hk]
            exact .non
      · obtain ⟨rfl, u, tu, rfl⟩ := hM
        have hh16 := hh15.same s16
        walk_at "ss"
        refine ⟨h, d, p', ws', rfl, hh16, e16, ⟨Nat.le_trans wl (by omega), wo2.tok, wo2.short⟩, fun z H18 wz lz18 k18 hh18 => ?_⟩
        have tu18 := Tp.tk (hh16.keep_tk k18) tu
        have e18 := k18 p' _ (list_ne_hand hh16 e16) e16
        refine ⟨z, rfl, by omega, fun v19 H19 s19 t19 => ?_⟩
        have er : readT z = readW ws' := by
          unfold readT
          rw [wz]
        rw [er] at t19
        walk_at "ss"
        refine ⟨v19, u, _, rfl, t19, Tp.tk s19.tk tu18, dok_read, ?_⟩
        walk_at "ss"
        refine iteF ?_
        have e19 := s19 _ _ e18
        walk_at "ss"
        refine b_lenL (lst_of e19) ?_
        rw [List.length_map]
        walk_at "ss"
        refine o_eqS rfl ?_
        walk_at "ss"
        by_cases hz : ws' = []
        · rw [show decide (V.int (ws'.length : Int) = V.int 0) = true from decide_eq_true (by rw [hz]; rfl)]
          refine iteT ?_
          walk_at "ss"
          exact q _
        · rw [show decide (V.int (ws'.length : Int) = V.int 0) = false from decide_eq_false (fun h => hz (List.length_eq_zero_iff.mp (by have := V.int.inj h; omega)))]
          refine iteF ?_
          walk_at "ss"
          exact ⟨hh18.same s19, p', ws', _, _, _, e19, hz, wo2, rfl⟩
    · obtain ⟨hh14, p, ws, x8, x9, x10, e14, ne, wo, rfl⟩ := hW
      walk_at "ss"
      exact q _
end
end K02
open PySem PySem.W PySem.Calls PyProof.Rows
set_option maxHeartbeats 0 in
theorem PySem.Challenge.cw_wayorring_k02_expressions_read_back_holds : PySem.Challenge.rw_wayorring_k02_expressions_read_back.Holds := by
  w_on; o_law
  refine HandSHeadRun.head_any (r := OpenLaw.row PySem.Challenge.rw_wayorring_k02_expressions_read_back) (q := view (OpenLaw.row PySem.Challenge.rw_wayorring_k02_expressions_read_back).prog [49]) (H := K02.hk) (ob := K02.ob) (M := 20000) (loose := K02.loose) (d := HandSHeadRun.topDef (OpenLaw.row PySem.Challenge.rw_wayorring_k02_expressions_read_back).prog 49) (kwd := []) K02.ob_eq
    (by kernel_rfl) (fun s => by kernel_rfl) K02.run (by kernel_rfl) (by kernel_rfl) (by kernel_rfl) (by rfl) (by first | assumption | decide +kernel) (by decide +kernel) ⟨rfl, rfl, rfl, rfl, rfl, by decide +kernel⟩ ?hw ?hc
  case hw => w_witness2
  case hc =>
    refine L2.walk_ofE (l := PySem.Challenge.rw_wayorring_k02_expressions_read_back) (n := 63) (k := 9) (x := "script") (CX := L2.CX0) rfl (by decide) (by kernel_rfl) ⟨rfl, by decide, by decide⟩ ?F (fun _ _ _ _ z => z)
    intro w mg fa h Y G hmg0
    obtain ⟨K, KX, c⟩ := Y
    have hmg : mg ("law" : PySem.Str) = some (.ref fa) := by
      have e : (HandSHeadRun.topDef (OpenLaw.row PySem.Challenge.rw_wayorring_k02_expressions_read_back).prog 49).name = ("law" : PySem.Str) := by kernel_rfl
      rw [← e]
      exact hmg0
    have T := K02.tx_of KX G c
    obtain ⟨f, fd, F, e2⟩ := T.d_law.ex
    have e3 := hmg.symm.trans e2
    cases e3
    exact ⟨K, fd, K02.spLaw K, KX, fun s v => L2.FunD.bindsA (ps := ["script"]) F (fun _ _ _ _ _ _ us hl => match us, hl with | [_], _ => rfl) s [v] rfl, fun H a ns hl _ hS => ⟨a, ns, rfl, hS, hl, fun _ => rfl⟩, fun base _ _ => K02.ok_law T F⟩

