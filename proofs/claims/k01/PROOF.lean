import PyProof.Rows.All
import Wide.All
import OpenK.AllK
import Wide.FinOn
import KE.KStateDown
import HandS.ForMost
import HandS.IsInst
import HandS.Codes
import HandS.Exc
import HandS.Defaults
import HandS.Head0
import HandS.Head1
import HandS.Head2
import HandS.HeadEnd
import HandS.HeadHook1
import HandS.HeadHook2
import HandS.HeadHook3
import HandS.HeadHook4
import HandS.FStr
import PySem.Challenge.RW_wayorring_k01_words_of_a_row
set_option Elab.async false
set_option linter.all false
set_option maxRecDepth 100000
set_option maxHeartbeats 8000000
/-! Wy: rules that take operands of several kinds, and steps. -/
namespace Wy
open PySem PySem.Spec PyProof.Rows L2
section
variable {X : Cx}
theorem CallR.or {f : Value} {r r' : List V → Hp → VK → Prop} (h : CallR X f r) (h' : CallR X f r') : CallR X f (fun xs H Q => r xs H Q ∨ r' xs H Q) := by
  intro pins s σ H xs us Q I rv q
  rcases q with q | q
  · exact h pins s σ H xs us Q I rv q
  · exact h' pins s σ H xs us Q I rv q
/-- k times a text -/
def repS (z : Str) (k : Int) : Str := ⟨(List.replicate k.toNat z.cps.toList).flatten.toArray⟩
theorem foldl_rep (a : Array Nat) : ∀ (n : Nat) (acc : Array Nat), ((List.replicate n a).foldl (· ++ ·) acc) = (acc.toList ++ (List.replicate n a.toList).flatten).toArray
  | 0, acc => by simp
  | n + 1, acc => by
    rw [List.replicate_succ, List.foldl_cons, foldl_rep a n, List.replicate_succ, List.flatten_cons]
    simp
theorem repS_eq (z : Str) (n : Int) : (⟨(List.replicate n.toNat z.cps).foldl (· ++ ·) #[]⟩ : Str) = repS z n := by
  unfold repS
  rw [foldl_rep]
  simp
def rMulSI : R2 := fun x y H Q => ∃ z k, x = .str z ∧ y = .int k ∧ 0 ≤ k ∧ k ≤ 1000 ∧ z.length ≤ 1000 ∧ Q (.str (repS z k)) H
theorem op_mulSI : OpR X (binaryOp .Mult) rMulSI := by
  intro pins s σ H x y v u Q I rx ry h
  obtain ⟨z, k, rfl, rfl, h0, h1, h2, q⟩ := h
  obtain ⟨t, rfl⟩ := rx
  obtain ⟨t', rfl⟩ := ry
  have hs : sizeLine = 16777216 := sizeLine_eq
  refine PySem.P.mul_str ?_ (fun a b => ?_) (fun a b => ?_) ?_
  · rw [decide_eq_false (by omega), decide_eq_false (by omega)]
    rfl
  · have h3 : (1000 : Int) ≤ (2 ^ 63 - 1) / k := (Int.le_ediv_iff_mul_le (by omega)).mpr (by omega)
    omega
  · unfold Builtin.Str.tooLong
    rw [decide_eq_false_iff_not]
    have h4 : z.length * k.toNat ≤ 1000 * 1000 := Nat.mul_le_mul h2 (by omega)
    omega
  · by_cases a : k < 1
    · have ek : k = 0 := by omega
      subst ek
      rw [if_pos a]
      have e : repS z 0 = Str.empty := rfl
      rw [e] at q
      exact ⟨by decide, .str Str.empty, H, I.tok _, ⟨_, rfl⟩, q⟩
    · rw [if_neg a]
      by_cases b : (k == 1 || z.length == 0) = true
      · rw [if_pos b]
        have e : repS z k = z := by
          rcases Bool.or_eq_true_iff.mp b with b | b
          · have e1 : k = 1 := by simpa using b
            subst e1
            unfold repS
            simp
          · have e1 : z.length = 0 := by simpa using b
            have e2 : z.cps = #[] := by simpa [Str.length] using e1
            obtain ⟨c⟩ := z
            unfold repS
            simp at e2
            subst e2
            simp
        rw [e] at q
        exact ⟨.str z, H, I, ⟨_, rfl⟩, q⟩
      · rw [if_neg b, repS_eq]
        refine ⟨?_, .str (repS z k), H, I.tok _, ⟨_, rfl⟩, q⟩
        have h4 : (repS z k).length = k.toNat * z.length := by
          unfold repS
          simp [Str.length, List.length_flatten, List.map_replicate, List.sum_replicate_nat]
        rw [h4]
        have h5 : k.toNat * z.length ≤ 1000 * 1000 := Nat.mul_le_mul (by omega) h2
        omega
/-- + of two ints, two texts, two lists -/
def rAddS : R2 := fun x y H Q => ∃ i j, x = .str i ∧ y = .str j ∧ i.length + j.length ≤ sizeLine ∧ Q (.str (i ++ j)) H
def rAddI : R2 := rI0 fun i j => .int (i + j)
def rAdd3 : R2 := fun x y H Q => rAddI x y H Q ∨ rAddS x y H Q ∨ rCat x y H Q
theorem op_add3 : OpR X (binaryOp .Add) rAdd3 := op_add.or (op_add_str.or op_cat)
def rMul2 : R2 := fun x y H Q => rI CMul (fun i j => .int (i * j)) x y H Q ∨ rMulSI x y H Q
theorem op_mul2 : OpR X (binaryOp .Mult) rMul2 := op_mul.or op_mulSI
/-- == -/
def rEq2 (K : PySem.W.Frag) : R2 := fun x y H Q => rEq x y H Q ∨ rEqD K x y H Q
theorem op_eq2 (hu : X.A.units + 64 < cLine) : OpR X (compareOp .Eq) (rEq2 X.K) := op_eq.or (op_eqD hu)
def rNe2 (K : PySem.W.Frag) : R2 := fun x y H Q => rNe x y H Q ∨ rNeD K x y H Q
theorem op_ne2 (hu : X.A.units + 64 < cLine) : OpR X (compareOp .NotEq) (rNe2 X.K) := op_ne.or (op_neD hu)
/-- in: a sign in a text; a flat item in a list or tuple -/
def rInS : R2 := fun x y H Q => ∃ (c : Nat) (z : Str), x = .str ⟨#[c]⟩ ∧ y = .str z ∧ Q (.bl (decide (c ∈ z.cps.toList))) H
def rNiS : R2 := fun x y H Q => ∃ (c : Nat) (z : Str), x = .str ⟨#[c]⟩ ∧ y = .str z ∧ Q (.bl (!decide (c ∈ z.cps.toList))) H
def rIn2 (K : PySem.W.Frag) : R2 := fun x y H Q => rInS x y H Q ∨ rIn K false x y H Q
def rNi2 (K : PySem.W.Frag) : R2 := fun x y H Q => rNiS x y H Q ∨ rIn K true x y H Q
theorem op_in2 : OpR X (compareOp .In) (rIn2 X.K) := op_in_sign.or op_in_seq
theorem op_ni2 : OpR X (compareOp .NotIn) (rNi2 X.K) := op_notIn_sign.or op_notIn_seq
def rSl2 (K : PySem.W.Frag) : V → Option Int → Option Int → Hp → VK → Prop := fun x lo hi H Q => rSlS x lo hi H Q ∨ rSlL K x lo hi H Q
theorem sl_2 : SlR X (rSl2 X.K) := sl_str.or sl_list
def rInt : List V → Hp → VK → Prop := fun xs H Q => ((∃ i, xs = [.int i] ∧ Q (.int i) H) ∨ ∃ k, xs = [.bl k] ∧ Q (.int (if k then 1 else 0)) H) ∨ ∃ a n, xs = [.str a] ∧ PySem.intText? a = some n ∧ a.length ≤ 640 ∧ Q (.int n) H
theorem call_int2 : CallR X (.type "int") rInt := CallR.or call_int1 call_int_str
def rAbs : List V → Hp → VK → Prop := fun xs H Q => ∃ i, xs = [.int i] ∧ Q (.int (if i < 0 then -i else i)) H
theorem call_abs2 : CallR X (.builtin "abs") rAbs := call_abs
def rLn (K : PySem.W.Frag) : List V → Hp → VK → Prop := fun xs H Q => ∃ x n, xs = [x] ∧ LenV K x H n ∧ Q (.int n) H
theorem call_len2 : CallR X (.builtin "len") (rLn X.K) := call_len
def tTr (K : PySem.W.Frag) (ta : TE) : TT := fun σ H Q => ta σ H fun x H' => ∃ k, TruV K x H' k ∧ Q k H'
theorem pt_tr {e : Expr} {te : TE} (h : PE X e te) (he : ∀ whole, isTrue e X.env whole = (do let v ← whole; standAt e.pos; holding [v] (truthy v)) := by intro _; rfl) : PT X e (tTr X.K te) := pt_truth h he
end

/-! ### what a heap keeps -/
/-- only at l -/
def Chg (l : Addr) (H H' : Hp) : Prop := ∀ b, b ≠ l → H' b = H b
theorem same_new {H : Hp} {p : Addr} {o : HO} (h : H p = none) : Same H (upd H p o) := fun b x e => by
  rw [upd_ne (ne_of_none e h)]
  exact e
theorem chg_upd {H : Hp} {p : Addr} {o : HO} : Chg p H (upd H p o) := fun b e => by rw [upd_ne e]
theorem Chg.same {l : Addr} {H0 H H' : Hp} (c : Chg l H H') (s : Same H0 H) (n : H0 l = none) : Same H0 H' := fun b o e => by
  rw [c b (ne_of_none e n)]
  exact s b o e
theorem Chg.at {l b : Addr} {H H' : Hp} {o : HO} (c : Chg l H H') (e : H b = some o) (n : b ≠ l) : H' b = some o := by
  rw [c b n]
  exact e
theorem new_same {H : Hp} {o : HO} {Q : VK} (h : ∀ p H2, H p = none → Same H H2 → H2 p = some o → Q (.ref p) H2) : ∀ p, H p = none → Q (.ref p) (upd H p o) :=
  fun p np => h p _ np (same_new np) upd_same
theorem lst_of {K : PySem.W.Frag} {H : Hp} {a : Addr} {xs : List V} (h : H a = some (.lst xs)) : SqL K H a xs := .inl (.inl h)
theorem tup_of {K : PySem.W.Frag} {H : Hp} {a : Addr} {xs : List V} (h : H a = some (.tup xs)) : SqT K H a xs := .inl (.inl h)
theorem seqT {K : PySem.W.Frag} {H H' : Hp} {a : Addr} {xs : List V} (e : Same H H') (h : SqT K H a xs) : SqT K H' a xs := by
  rcases h with (h | ⟨o, h⟩) | h
  · exact .inl (.inl (e _ _ h))
  · exact .inl (.inr ⟨o, e _ _ h⟩)
  · exact .inr h
/-! ### steps -/
def KBl (x : V) (H : Hp) (QT : Bool → Hp → Prop) : Prop := ∃ k, x = .bl k ∧ QT k H
def KTr (K : PySem.W.Frag) (x : V) (H : Hp) (QT : Bool → Hp → Prop) : Prop := ∃ k, TruV K x H k ∧ QT k H
def KInt (x : V) (H : Hp) (QO : Option Int → Hp → Prop) : Prop := ∃ i, x = .int i ∧ QO (some i) H
def KR1 (vs : List V) (H : Hp) (R : It → Hp → Prop) : Prop := ∃ j : Int, vs = [.int j] ∧ -(2 ^ 62) ≤ j ∧ j < 2 ^ 62 ∧ R (Itr 0 j.toNat) H
def KR2 (vs : List V) (H : Hp) (R : It → Hp → Prop) : Prop := ∃ i j : Int, vs = [.int i, .int j] ∧ (-(2 ^ 62) ≤ i ∧ i < 2 ^ 62 ∧ -(2 ^ 62) ≤ j ∧ j < 2 ^ 62) ∧ R (Itr i (j - i).toNat) H
def KL (K : PySem.W.Frag) (x : V) (H : Hp) (R : It → Hp → Prop) : Prop := ∃ a, x = .ref a ∧ (∃ xs, SqL K H a xs) ∧ R (Itl K a) H
def KT (K : PySem.W.Frag) (x : V) (H : Hp) (R : It → Hp → Prop) : Prop := ∃ a, x = .ref a ∧ (∃ xs, SqT K H a xs) ∧ R (Itt K a) H
def KS (x : V) (H : Hp) (R : It → Hp → Prop) : Prop := ∃ z, x = .str z ∧ R (Its z) H
def NewO (n : Nat) (o : HO) (H : Hp) (Q : VK) : Prop := n ≤ sizeLine ∧ ∀ p, H p = none → Q (.ref p) (upd H p o)
def COut (D : Addr) (y : V) (H : Hp) (N : Hp → Prop) : Prop := ∃ acc, H D = some (.lst acc) ∧ acc.length < sizeLine ∧ N (upd H D (.lst (acc ++ [y])))
def KWh (W : Nat → L2.St → Hp → Prop) (m : Nat) (t : TS) (D : Ends) (σ : L2.St) (H : Hp) : Prop := ∃ N : L2.St → Hp → Prop, (∀ σ' H', N σ' H' → ∃ m', m' < m ∧ W m' σ' H') ∧ t ⟨N, D.rt, D.nx, N⟩ σ H
section
variable {K : PySem.W.Frag} {σ : L2.St} {H : Hp} {Q : VK} {QT : Bool → Hp → Prop} {D : Ends} {t u : TS} {c c' : TT} {te ta tb : TE} {g : TG} {v x y : V} {i : Nat} {b : Bool} {QA : List V → Hp → Prop}
theorem s_seq (h : t ⟨u D, D.rt, D.bk, D.ct⟩ σ H) : tSeq t u D σ H := h
theorem s_asg (h : te σ H fun x H1 => g x σ H1 D.nx) : tAsg te g D σ H := h
theorem g_name {QS : L2.St → Hp → Prop} (h : QS (σ.set i (some v)) H) : gName i v σ H QS := h
theorem s_ret (h : te σ H D.rt) : tRet te D σ H := h
theorem s_retN (h : D.rt .non H) : tRetN D σ H := h
theorem s_drop (h : te σ H fun _ H1 => D.nx σ H1) : tDrop te D σ H := h
theorem s_if (h : c σ H fun b H1 => if b = true then t D σ H1 else u D σ H1) : tIfS c t u D σ H := h
theorem s_next (h : D.nx σ H) : tNext D σ H := h
theorem s_brk (h : D.bk σ H) : tBreak D σ H := h
theorem s_ct (h : D.ct σ H) : tCont D σ H := h
theorem s_aug {ti : TIp} (e : σ[i]? = some (some x)) (h : te σ H fun y H1 => ti x y H1 fun z H2 => D.nx (σ.set i (some z)) H2) : tAug i te ti D σ H := ⟨x, e, h⟩
theorem i_add {i j : Int} {f : Int → Int → Int} (h : Q (.int (f i j)) H) : ipI f (.int i) (.int j) H Q := ⟨i, j, rfl, rfl, h⟩
theorem s_cut (M : L2.St → Hp → Prop) (h : t ⟨M, D.rt, D.bk, D.ct⟩ σ H) (k : ∀ σ' H', M σ' H' → u D σ' H') : C8.tCut t u D σ H := ⟨M, h, k⟩
theorem e_var (e : σ[i]? = some (some v)) (h : Q v H) : tVar i σ H Q := ⟨v, e, h⟩
theorem e_c (h : Q v H) : tC v σ H Q := h
theorem e_op {r : R2} (h : ta σ H fun x H1 => tb σ H1 fun y H2 => r x y H2 Q) : tOp r ta tb σ H Q := h
theorem e_un {r : V → Hp → VK → Prop} (h : ta σ H fun x H1 => r x H1 Q) : tUn r ta σ H Q := h
theorem o_addI {i j : Int} (h : Q (.int (i + j)) H) : rAdd3 (.int i) (.int j) H Q := .inl ⟨i, j, rfl, rfl, h⟩
theorem o_addS {i j : Str} (hz : i.length + j.length ≤ sizeLine) (h : Q (.str (i ++ j)) H) : rAdd3 (.str i) (.str j) H Q := .inr (.inl ⟨i, j, rfl, rfl, hz, h⟩)
theorem o_addL {a a' : Addr} {xs ys : List V} (ha : H a = some (.lst xs)) (hb : H a' = some (.lst ys)) (hz : xs.length + ys.length ≤ sizeLine) (h : ∀ p H2, H p = none → Same H H2 → H2 p = some (.lst (xs ++ ys)) → Q (.ref p) H2) :
    rAdd3 (.ref a) (.ref a') H Q := .inr (.inr ⟨a, a', xs, ys, rfl, rfl, ha, hb, hz, new_same h⟩)
theorem o_mulI {i j : Int} (hc : CMul i j) (h : Q (.int (i * j)) H) : rMul2 (.int i) (.int j) H Q := .inl ⟨i, j, rfl, rfl, hc, h⟩
theorem o_mulI1 {i j : Int} (h1 : -(2 ^ 64) < i) (h2 : i < 2 ^ 64) (h : Q (.int (i * j)) H) : rMul2 (.int i) (.int j) H Q := o_mulI (.inl ⟨h1, h2⟩) h
theorem o_mulI2 {i j : Int} (h1 : -(2 ^ 64) < j) (h2 : j < 2 ^ 64) (h : Q (.int (i * j)) H) : rMul2 (.int i) (.int j) H Q := o_mulI (.inr ⟨h1, h2⟩) h
theorem o_mod {f : Int → Int → V} {i j : Int} (h1 : 0 < j) (h : Q (f i j) H) : rI (fun _ j => 0 < j) f (.int i) (.int j) H Q := ⟨i, j, rfl, rfl, h1, h⟩
theorem o_fdiv {f : Int → Int → V} {i j : Int} (h1 : 0 < j) (h2 : j < 1073741824) (h : Q (f i j) H) : rI CDiv f (.int i) (.int j) H Q := ⟨i, j, rfl, rfl, ⟨h1, h2⟩, h⟩
theorem o_pow {f : Int → Int → V} {i j : Int} (h1 : 0 ≤ j) (h2 : j ≤ 1000000) (h3 : i.natAbs < 2 ^ 64) (h : Q (f i j) H) : rI CPow f (.int i) (.int j) H Q := ⟨i, j, rfl, rfl, ⟨h1, h2, h3⟩, h⟩
theorem o_mulS {z : Str} {k : Int} (h0 : 0 ≤ k) (h1 : k ≤ 1000) (h2 : z.length ≤ 1000) (h : Q (.str (repS z k)) H) : rMul2 (.str z) (.int k) H Q := .inr ⟨z, k, rfl, rfl, h0, h1, h2, h⟩
theorem o_I0 {f : Int → Int → V} {i j : Int} (h : Q (f i j) H) : rI0 f (.int i) (.int j) H Q := ⟨i, j, rfl, rfl, h⟩
theorem o_I {C : Int → Int → Prop} {f : Int → Int → V} {i j : Int} (hc : C i j) (h : Q (f i j) H) : rI C f (.int i) (.int j) H Q := ⟨i, j, rfl, rfl, hc, h⟩
theorem o_eqS (hs : scal x y = true) (h : Q (.bl (decide (x = y))) H) : rEq2 K x y H Q := .inl ⟨hs, h⟩
theorem o_neS (hs : scal x y = true) (h : Q (.bl (!decide (x = y))) H) : rNe2 K x y H Q := .inl ⟨hs, h⟩
theorem o_eqD {d e : PyData} (h1 : Dp K H x d) (h2 : Dp K H y e) (h3 : SeqAt.shaped d = true) (h4 : SeqAt.shaped e = true) (h : Q (.bl (PyData.eqv d e)) H) : rEq2 K x y H Q := .inr ⟨d, e, h1, h2, h3, h4, h⟩
theorem o_neD {d e : PyData} (h1 : Dp K H x d) (h2 : Dp K H y e) (h3 : SeqAt.shaped d = true) (h4 : SeqAt.shaped e = true) (h : Q (.bl (!PyData.eqv d e)) H) : rNe2 K x y H Q := .inr ⟨d, e, h1, h2, h3, h4, h⟩
theorem o_inS {k : Nat} {z : Str} (h : Q (.bl (decide (k ∈ z.cps.toList))) H) : rIn2 K (.str ⟨#[k]⟩) (.str z) H Q := .inl ⟨k, z, rfl, rfl, h⟩
theorem o_niS {k : Nat} {z : Str} (h : Q (.bl (!decide (k ∈ z.cps.toList))) H) : rNi2 K (.str ⟨#[k]⟩) (.str z) H Q := .inl ⟨k, z, rfl, rfl, h⟩
theorem o_inT {a : Addr} {xs : List V} (hs : SqT K H a xs) (hf : flatV x = true) (hg : xs.all flatV = true) (h : Q (.bl (inV x xs)) H) : rIn2 K x (.ref a) H Q := .inr ⟨a, xs, rfl, .inr hs, hf, hg, h⟩
theorem o_inL {a : Addr} {xs : List V} (hs : SqL K H a xs) (hf : flatV x = true) (hg : xs.all flatV = true) (h : Q (.bl (inV x xs)) H) : rIn2 K x (.ref a) H Q := .inr ⟨a, xs, rfl, .inl hs, hf, hg, h⟩
theorem o_niT {a : Addr} {xs : List V} (hs : SqT K H a xs) (hf : flatV x = true) (hg : xs.all flatV = true) (h : Q (.bl (!inV x xs)) H) : rNi2 K x (.ref a) H Q := .inr ⟨a, xs, rfl, .inr hs, hf, hg, h⟩
theorem o_niL {a : Addr} {xs : List V} (hs : SqL K H a xs) (hf : flatV x = true) (hg : xs.all flatV = true) (h : Q (.bl (!inV x xs)) H) : rNi2 K x (.ref a) H Q := .inr ⟨a, xs, rfl, .inl hs, hf, hg, h⟩
def rIsN : R2 := fun x y H Q => y = .non ∧ Q (.bl (decide (x = .non))) H
def rNtN : R2 := fun x y H Q => y = .non ∧ Q (.bl (!decide (x = .non))) H
theorem op_isN2 {X : Cx} : OpR X (compareOp .Is) rIsN := op_isN
theorem op_ntN2 {X : Cx} : OpR X (compareOp .IsNot) rNtN := op_notN
theorem o_isN (h : Q (.bl (decide (x = .non))) H) : rIsN x .non H Q := ⟨rfl, h⟩
theorem o_ntN (h : Q (.bl (!decide (x = .non))) H) : rNtN x .non H Q := ⟨rfl, h⟩
theorem o_ixL {a : Addr} {xs : List V} {j : Int} (hs : SqL K H a xs) (e : atI xs j = some v) (h : Q v H) : rIx K (.ref a) (.int j) H Q := .inl ⟨a, xs, j, v, rfl, rfl, hs, e, h⟩
theorem o_ixT {a : Addr} {xs : List V} {j : Int} (hs : SqT K H a xs) (e : atI xs j = some v) (h : Q v H) : rIx K (.ref a) (.int j) H Q := .inr (.inl ⟨a, xs, j, v, rfl, rfl, hs, e, h⟩)
theorem o_ixS {z : Str} {j : Int} {k : Nat} (hz : z.length ≤ sizeLine) (e : atI z.cps.toList j = some k) (h : Q (.str ⟨#[k]⟩) H) : rIx K (.str z) (.int j) H Q := .inr (.inr ⟨z, j, k, rfl, rfl, hz, e, h⟩)
theorem u_neg {i : Int} {f : Int → V} (h : Q (f i) H) : rU f (.int i) H Q := ⟨i, rfl, h⟩
theorem t_test (h : te σ H fun x H' => KBl x H' QT) : tTest te σ H QT := h
theorem t_b (h : te σ H fun x H' => KBl x H' QT) : tB te σ H QT := h
theorem k_bl (h : QT b H) : KBl (.bl b) H QT := ⟨b, rfl, h⟩
theorem t_tr (h : te σ H fun x H' => KTr K x H' QT) : tTr K te σ H QT := h
theorem k_trB (h : QT b H) : KTr K (.bl b) H QT := ⟨b, rfl, h⟩
theorem k_trN (h : QT false H) : KTr K .non H QT := ⟨false, rfl, h⟩
theorem k_trI {i : Int} (h : QT (i != 0) H) : KTr K (.int i) H QT := ⟨_, rfl, h⟩
theorem k_trL {a : Addr} {xs : List V} (hs : SqL K H a xs) (h : QT (!xs.isEmpty) H) : KTr K (.ref a) H QT := ⟨_, .inl ⟨xs, hs, rfl⟩, h⟩
theorem k_trT {a : Addr} {xs : List V} (hs : SqT K H a xs) (h : QT (!xs.isEmpty) H) : KTr K (.ref a) H QT := ⟨_, .inr (.inl ⟨xs, hs, rfl⟩), h⟩
theorem t_and (h : c σ H fun b H1 => if b = true then c' σ H1 QT else QT false H1) : tAnd c c' σ H QT := h
theorem t_or (h : c σ H fun b H1 => if b = true then QT true H1 else c' σ H1 QT) : tOr c c' σ H QT := h
theorem t_not (h : c σ H fun b H1 => QT (!b) H1) : tNot c σ H QT := h
theorem e_andV (h : ta σ H fun x H1 => KBl x H1 fun b H2 => if b = true then tb σ H2 Q else Q (.bl false) H2) : tAndV ta tb σ H Q := h
theorem e_orV (h : ta σ H fun x H1 => KBl x H1 fun b H2 => if b = true then Q (.bl true) H2 else tb σ H2 Q) : tOrV ta tb σ H Q := h
theorem e_notV (h : ta σ H fun x H1 => KBl x H1 fun b H2 => Q (.bl (!b)) H2) : tNotV ta σ H Q := h
theorem e_if (h : c σ H fun b H1 => if b = true then ta σ H1 Q else tb σ H1 Q) : tIf c ta tb σ H Q := h
theorem e_chain {r r' : R2} {tc : TE} (h : ta σ H fun x H1 => tb σ H1 fun y H2 => r x y H2 fun z H3 => KBl z H3 fun k H3 => if k = true then tc σ H3 fun w' H4 => r' y w' H4 Q else Q (.bl false) H3) : tChain r r' ta tb tc σ H Q := h
theorem a_nil (h : QA [] H) : tNil σ H QA := h
theorem a_cons {tr : TA} (h : te σ H fun x H1 => tr σ H1 fun xs H2 => QA (x :: xs) H2) : tCons te tr σ H QA := h
theorem c_b {r : List V → Hp → VK → Prop} {tl : TA} (h : tl σ H fun vs H1 => r vs H1 Q) : tCB r tl σ H Q := h
theorem c_call {sp : Sp} {dvs : List V} {E : XK} {tl : TA} (h : tl σ H fun vs H1 => sp (vs ++ dvs) H1 Q E) : tCall sp dvs E tl σ H Q := h
theorem b_lenS {z : Str} (hz : z.length ≤ sizeLine) (h : Q (.int z.length) H) : rLn K [.str z] H Q := ⟨_, z.length, rfl, ⟨hz, rfl⟩, h⟩
theorem b_lenL {a : Addr} {xs : List V} (hs : SqL K H a xs) (h : Q (.int xs.length) H) : rLn K [.ref a] H Q := ⟨_, xs.length, rfl, .inl ⟨xs, hs, rfl⟩, h⟩
theorem b_lenT {a : Addr} {xs : List V} (hs : SqT K H a xs) (h : Q (.int xs.length) H) : rLn K [.ref a] H Q := ⟨_, xs.length, rfl, .inr ⟨xs, hs, rfl⟩, h⟩
theorem b_int {i : Int} (h : Q (.int i) H) : rInt [.int i] H Q := .inl (.inl ⟨i, rfl, h⟩)
theorem b_intB (h : Q (.int (if b then 1 else 0)) H) : rInt [.bl b] H Q := .inl (.inr ⟨b, rfl, h⟩)
theorem b_intS {z : Str} {n : Int} (e : PySem.intText? z = some n) (hl : z.length ≤ 640) (h : Q (.int n) H) : rInt [.str z] H Q := .inr ⟨z, n, rfl, e, hl, h⟩
theorem b_abs {i : Int} (h : Q (.int (if i < 0 then -i else i)) H) : rAbs [.int i] H Q := ⟨i, rfl, h⟩
theorem b_isi {n : String} {x : V} {tv : Value} (ty : TyX K H x tv) (h : PySem.W.kitOne K tv (.type n) = some b) (q : Q (.bl b) H) : rIsi K [x, .ty n] H Q := ⟨x, .ty n, tv, .type n, b, rfl, .ty n, ty, h, q⟩
theorem e_tup {tl : TA} (h : tl σ H fun xs H1 => NewO xs.length (.tup xs) H1 Q) : tTup tl σ H Q := h
theorem e_lst {tl : TA} (h : tl σ H fun xs H1 => NewO xs.length (.lst xs) H1 Q) : tLst tl σ H Q := h
theorem n_obj {n : Nat} {o : HO} (hz : n ≤ sizeLine) (h : ∀ p H2, H p = none → Same H H2 → H2 p = some o → Q (.ref p) H2) : NewO n o H Q := ⟨hz, new_same h⟩
theorem e_sl {r : V → Option Int → Option Int → Hp → VK → Prop} {tl th : TO} (h : te σ H fun x H1 => tl σ H1 fun l H2 => th σ H2 fun u H3 => r x l u H3 Q) : tSl r te tl th σ H Q := h
theorem p_no {QO : Option Int → Hp → Prop} (h : QO none H) : tNoPart σ H QO := h
theorem p_so {QO : Option Int → Hp → Prop} (h : te σ H fun x H1 => KInt x H1 QO) : tPart te σ H QO := h
theorem k_int {i : Int} {QO : Option Int → Hp → Prop} (h : QO (some i) H) : KInt (.int i) H QO := ⟨i, rfl, h⟩
theorem l_S {z : Str} {lo hi : Option Int} (hz : z.length ≤ sizeLine) (h : Q (.str (cutS z lo hi)) H) : rSl2 K (.str z) lo hi H Q := .inl ⟨z, rfl, hz, h⟩
theorem l_L {a : Addr} {xs : List V} {lo hi : Option Int} (hs : SqL K H a xs) (h : ∀ p H2, H p = none → Same H H2 → H2 p = some (.lst (cutV xs lo hi)) → Q (.ref p) H2) : rSl2 K (.ref a) lo hi H Q := .inr ⟨a, xs, rfl, hs, new_same h⟩
/-- o.m(..), m of a built-in type -/
theorem m_bm {T : String} {r : V → List V → Hp → VK → Prop} {tl : TA} (h : te σ H fun x H1 => tyV K T x H1 ∧ tl σ H1 fun xs H2 => r x xs H2 Q) : tBM K T r te tl σ H Q := h
theorem m_ty {a : Addr} {xs : List V} {P : Prop} (hs : SqL K H a xs) (h : P) : tyV K "list" (.ref a) H ∧ P := ⟨.inl ⟨rfl, xs, hs⟩, h⟩
theorem m_app {a : Addr} {xs : List V} (e : H a = some (.lst xs)) (hz : xs.length < sizeLine) (h : ∀ H2, Chg a H H2 → H2 a = some (.lst (xs ++ [y])) → Q .non H2) : rAppend (.ref a) [y] H Q := ⟨a, xs, y, rfl, rfl, e, hz, h _ chg_upd upd_same⟩
theorem g_sub {to ti : TE} {ts : TSet} {QS : L2.St → Hp → Prop} (h : to σ H fun o H1 => ti σ H1 fun i H2 => ts o i v H2 fun H3 => QS σ H3) : gSub to ti ts v σ H QS := h
theorem st_L {a : Addr} {xs : List V} {k : Int} {j : Nat} {QH : Hp → Prop} (e : H a = some (.lst xs)) (hj : ixN xs.length k = some j) (h : ∀ H2, Chg a H H2 → H2 a = some (.lst (xs.set j v)) → QH H2) : rSetL (.ref a) (.int k) v H QH := ⟨a, xs, k, j, rfl, rfl, e, hj, h _ chg_upd upd_same⟩
theorem m_m1 {r : V → List V → Hp → VK → Prop} (h : te σ H fun x H1 => (∃ a, x = .str a) ∧ ta σ H1 fun y H2 => r x [y] H2 Q) : tM1 r te ta σ H Q := h
theorem m_st {z : Str} {P : Prop} (h : P) : (∃ a, V.str z = .str a) ∧ P := ⟨⟨z, rfl⟩, h⟩
def rJoin (K : PySem.W.Frag) : V → List V → Hp → VK → Prop := fun x xs H Q => ∃ a p, ∃ ys : List Str, x = .str a ∧ xs = [.ref p] ∧ (SqL K H p (ys.map V.str) ∨ SqT K H p (ys.map V.str)) ∧
  (ys.map (·.length)).sum + ys.length * a.length ≤ 16777216 ∧ Q (.str (Txt.join a ys)) H
theorem pe_join2 {X : Cx} {o e : Expr} {to te : TE} {apos pos : Pos} (ho : PE X o to) (he : PE X e te) (hs : starEach [e] X.env = [(false, eval e X.env)] := by rfl) (hbase : attributeBase o "join" X.env (eval o X.env) = eval o X.env := by rfl) (hline : (apos.endLine == pos.line) = true := by rfl) :
    PE X (.Call (.Attribute o "join" apos) [e] [] pos) (tM1 (rJoin X.K) to te) := pe_join ho he hs hbase hline
theorem m_join {z : Str} {a : Addr} {ys : List Str} (hs : SqL K H a (ys.map V.str)) (hz : (ys.map (·.length)).sum + ys.length * z.length ≤ 16777216) (h : Q (.str (Txt.join z ys)) H) : rJoin K (.str z) [.ref a] H Q := ⟨z, a, ys, rfl, rfl, .inl hs, hz, h⟩
/-! ### loops -/
def LoopF (J : It) (g : TG) (tb : TS) (D : Ends) (σ : L2.St) (H : Hp) : Prop := ∃ W : Nat → Nat → L2.St → Hp → Prop, (∃ m, W 0 m σ H) ∧ ∀ i m σ H, W i m σ H →
  (J.stop i H ∧ D.nx σ H) ∨ (J.go i H ∧ ∃ N : L2.St → Hp → Prop, (∀ σ' H', N σ' H' → ∃ m', m' < m ∧ W (i + 1) m' σ' H') ∧ ∀ x H', J.yld i H x H' → g x σ H' fun σ2 H2 => tb { D with nx := N, ct := N, bk := D.nx } σ2 H2)
theorem s_for {wi : TI} (h : wi σ H fun J H1 => LoopF J g t D σ H1) : tFor wi g t D σ H := h
def LoopC (J : It) (g : TG) (tt : TT) (te : TE) (vs : List Nat) (σ : L2.St) (H1 : Hp) (Q : VK) : Prop := ∀ D, H1 D = none → ∃ W : Nat → Nat → Hp → Prop, (∃ m, W 0 m (upd H1 D (.lst []))) ∧ ∀ i m H, W i m H →
  (J.stop i H ∧ Q (.ref D) H) ∨ (J.go i H ∧ ∃ Nx : Hp → Prop, (∀ H', Nx H' → ∃ m', m' < m ∧ W (i + 1) m' H') ∧ ∀ x H', J.yld i H x H' → g x (wipe σ vs) H' fun σ2 H2 => wipe σ2 vs = wipe σ vs ∧ tt σ2 H2 fun b H3 =>
    if b = true then te σ2 H3 fun y H4 => ∃ acc, H4 D = some (.lst acc) ∧ acc.length < sizeLine ∧ Nx (upd H4 D (.lst (acc ++ [y]))) else Nx H3)
theorem e_lc {wi : TI} {tt : TT} {vs : List Nat} (h : wi σ H fun J H1 => LoopC J g tt te vs σ H1 Q) : tLc wi g tt te vs σ H Q := h
theorem t_yes (h : QT true H) : tYes σ H QT := h
theorem w_r1 {tl : TA} {R : It → Hp → Prop} (h : tl σ H fun vs H1 => KR1 vs H1 R) : iRng1 tl σ H R := h
theorem w_r2 {tl : TA} {R : It → Hp → Prop} (h : tl σ H fun vs H1 => KR2 vs H1 R) : iRng2 tl σ H R := h
theorem k_r1 {j : Int} {R : It → Hp → Prop} (h1 : -(2 ^ 62) ≤ j) (h2 : j < 2 ^ 62) (h : R (Itr 0 j.toNat) H) : KR1 [.int j] H R := ⟨j, rfl, h1, h2, h⟩
theorem k_r2 {i j : Int} {R : It → Hp → Prop} (h1 : -(2 ^ 62) ≤ i ∧ i < 2 ^ 62 ∧ -(2 ^ 62) ≤ j ∧ j < 2 ^ 62) (h : R (Itr i (j - i).toNat) H) : KR2 [.int i, .int j] H R := ⟨i, j, rfl, h1, h⟩
theorem w_l {R : It → Hp → Prop} (h : te σ H fun x H1 => KL K x H1 R) : iList K te σ H R := h
theorem k_l {a : Addr} {xs : List V} {R : It → Hp → Prop} (hs : SqL K H a xs) (h : R (Itl K a) H) : KL K (.ref a) H R := ⟨a, rfl, ⟨xs, hs⟩, h⟩
theorem w_t {R : It → Hp → Prop} (h : te σ H fun x H1 => KT K x H1 R) : iTup K te σ H R := h
theorem k_t {a : Addr} {xs : List V} {R : It → Hp → Prop} (hs : SqT K H a xs) (h : R (Itt K a) H) : KT K (.ref a) H R := ⟨a, rfl, ⟨xs, hs⟩, h⟩
theorem f_range {lo : Int} {n : Nat} (Pv : Nat → L2.St → Hp → Prop) (h0 : Pv 0 σ H)
    (hs : ∀ i σ H, i < n → Pv i σ H → g (.int (lo + i)) σ H fun σ2 H2 => t ⟨Pv (i + 1), D.rt, D.nx, Pv (i + 1)⟩ σ2 H2) (hd : ∀ σ H, Pv n σ H → D.nx σ H) : LoopF (Itr lo n) g t D σ H := for_range Pv h0 hs hd
theorem f_list {a : Addr} {xs : List V} (Pv : Nat → L2.St → Hp → Prop) (h0 : Pv 0 σ H) (hl : ∀ i σ H, i ≤ xs.length → Pv i σ H → SqL K H a xs)
    (hs : ∀ i x σ H, xs[i]? = some x → Pv i σ H → g x σ H fun σ2 H2 => t ⟨Pv (i + 1), D.rt, D.nx, Pv (i + 1)⟩ σ2 H2) (hd : ∀ σ H, Pv xs.length σ H → D.nx σ H) : LoopF (Itl K a) g t D σ H := for_list Pv h0 hl hs hd
theorem f_tup {a : Addr} {xs : List V} (Pv : Nat → L2.St → Hp → Prop) (h0 : Pv 0 σ H) (hl : ∀ i σ H, i ≤ xs.length → Pv i σ H → SqT K H a xs)
    (hs : ∀ i x σ H, xs[i]? = some x → Pv i σ H → g x σ H fun σ2 H2 => t ⟨Pv (i + 1), D.rt, D.nx, Pv (i + 1)⟩ σ2 H2) (hd : ∀ σ H, Pv xs.length σ H → D.nx σ H) : LoopF (Itt K a) g t D σ H := for_tup Pv h0 hl hs hd
/-- a text, sign by sign -/
theorem w_s {R : It → Hp → Prop} (h : te σ H fun x H1 => KS x H1 R) : iStr te σ H R := h
theorem k_s {z : Str} {R : It → Hp → Prop} (h : R (Its z) H) : KS (.str z) H R := ⟨z, rfl, h⟩
theorem f_str {z : Str} (Pv : Nat → L2.St → Hp → Prop) (h0 : Pv 0 σ H)
    (hs : ∀ i k σ H, z.cps.toList[i]? = some k → Pv i σ H → g (.str ⟨#[k]⟩) σ H fun σ2 H2 => t ⟨Pv (i + 1), D.rt, D.nx, Pv (i + 1)⟩ σ2 H2) (hd : ∀ σ H, Pv z.cps.toList.length σ H → D.nx σ H) : LoopF (Its z) g t D σ H := by
  refine ⟨fun i m σ H => m = z.cps.toList.length - i ∧ i ≤ z.cps.toList.length ∧ Pv i σ H, ⟨_, rfl, Nat.zero_le _, h0⟩, ?_⟩
  rintro i m σ H ⟨rfl, hi, p⟩
  by_cases hlt : i < z.cps.toList.length
  · refine .inr ⟨show i < z.cps.size by simpa using hlt, Pv (i + 1), fun σ' H' p' => ⟨z.cps.toList.length - (i + 1), by omega, rfl, hlt, p'⟩, fun x H' y => ?_⟩
    obtain ⟨rfl, k, e, rfl⟩ := y
    exact hs i k σ _ (by simpa using e) p
  · have e : i = z.cps.toList.length := by omega
    subst e
    exact .inl ⟨by simp [Its], hd σ H p⟩
theorem c_range {lo : Int} {n : Nat} {vs : List Nat} {tt : TT} (Pv : Addr → Nat → Hp → Prop) (h0 : ∀ D H1, H D = none → Same H H1 → H1 D = some (.lst []) → Pv D 0 H1)
    (hs : ∀ D i H1, i < n → H D = none → Pv D i H1 → g (.int (lo + i)) (wipe σ vs) H1 fun σ2 H2 => wipe σ2 vs = wipe σ vs ∧ tt σ2 H2 fun b H3 =>
      if b = true then te σ2 H3 fun y H4 => COut D y H4 (Pv D (i + 1)) else Pv D (i + 1) H3) (hd : ∀ D H1, H D = none → Pv D n H1 → Q (.ref D) H1) :
    LoopC (Itr lo n) g tt te vs σ H Q := fun D nD => lc_range (Pv D) (h0 D _ nD (same_new nD) upd_same) (fun i H1 hi p => hs D i H1 hi nD p) fun H1 p => hd D H1 nD p
theorem c_list {a : Addr} {xs : List V} {vs : List Nat} {tt : TT} (Pv : Addr → Nat → Hp → Prop) (h0 : ∀ D H1, H D = none → Same H H1 → H1 D = some (.lst []) → Pv D 0 H1) (hl : ∀ D i H1, i ≤ xs.length → H D = none → Pv D i H1 → SqL K H1 a xs)
    (hs : ∀ D i x H1, xs[i]? = some x → H D = none → Pv D i H1 → g x (wipe σ vs) H1 fun σ2 H2 => wipe σ2 vs = wipe σ vs ∧ tt σ2 H2 fun b H3 =>
      if b = true then te σ2 H3 fun y H4 => COut D y H4 (Pv D (i + 1)) else Pv D (i + 1) H3) (hd : ∀ D H1, H D = none → Pv D xs.length H1 → Q (.ref D) H1) :
    LoopC (Itl K a) g tt te vs σ H Q := fun D nD => lc_list (Pv D) (h0 D _ nD (same_new nD) upd_same) (fun i H1 hi p => hl D i H1 hi nD p) (fun i x H1 hi p => hs D i x H1 hi nD p) fun H1 p => hd D H1 nD p
theorem c_out {D : Addr} {acc : List V} {N : Hp → Prop} (e : H D = some (.lst acc)) (hz : acc.length < sizeLine) (h : ∀ H2, Chg D H H2 → H2 D = some (.lst (acc ++ [y])) → N H2) : COut D y H N := ⟨acc, e, hz, h _ chg_upd upd_same⟩
theorem s_while (W : Nat → L2.St → Hp → Prop) (m0 : Nat) (h0 : W m0 σ H) (hs : ∀ m σ H, W m σ H → c σ H fun b H1 => if b = true then KWh W m t D σ H1 else D.nx σ H1) : tWhile c t D σ H := ⟨W, ⟨m0, h0⟩, hs⟩
theorem k_while {W : Nat → L2.St → Hp → Prop} {m : Nat} (h : t ⟨fun σ' H' => ∃ m', m' < m ∧ W m' σ' H', D.rt, D.nx, fun σ' H' => ∃ m', m' < m ∧ W m' σ' H'⟩ σ H) : KWh W m t D σ H := ⟨_, fun _ _ q => q, h⟩
end
/-! ### a def of the top -/
structure DefOk (K : PySem.W.Frag) (mg : Str → Option Value) (x : Str) (st : Stmt) : Prop where
  ex : ∃ f fd, FunD K x x (defArgs st) (defBody st) (defScope st) [] [] f fd ∧ mg x = some (.ref f)
theorem cal_of {P : Program} {w : World} {K : PySem.W.Frag} {mg : Str → Option Value} {base : Heap} {x : Str} {st : Stmt} {N ps : List Str} {k : Nat} {sp : Sp} (F : DefOk K mg x st) (S : FnScope N ps (defScope st))
    (hb : ∀ f fd, FunD K x x (defArgs st) (defBody st) (defScope st) [] [] f fd → Binds K fd ps []) (len : ∀ vs H Q E, sp vs H Q E → vs.length = ps.length)
    (body : ∀ (f : Addr) (cdv : Value) (A : Around) (outer : List Env) (s : Shared) (H : Hp) (vs : List V) (Q : VK) (E : XK), Room k (A.deeper (envOfC x (defScope st) s.heap.objs.size f cdv)) → sp vs H Q E →
      ∃ t, PSs (cxOf CX0 P w K mg base N x (defScope st) f cdv A outer s H E).nox (defBody st) t ∧ t { nx := fun _ H' => Q .non H', rt := Q } (start N vs) H) : C8.Cal P w K mg base (k + 1) x sp [] := by
  obtain ⟨f, fd, F, hm⟩ := F.ex
  refine ⟨f, fd, ps, [], F.ok S len fun cdv A outer s H vs Q E hr h => ?_, hm, F.kp, hb f fd F, .nil⟩
  obtain ⟨t, h1, h2⟩ := body f cdv A outer s H vs Q E hr h
  exact ⟨t, PSs.nox h1, h2⟩
/-! ### calls without arguments -/
section
variable {X : Cx} {k j : Nat} {x : Str} {sp : Sp} {dvs : List V} {p pos : Pos}
theorem pe_c0 (c : C8.Cal X.prog X.w X.K X.mg X.base k x sp dvs) (hr : Room j X.A) (hk : k ≤ j) (hg : Gl X x) (hdb : (x == ("__debug__" : Str)) = false := by decide) :
    PE X (.Call (.Name x p) [] [] pos) (tCall sp dvs C8.E0 tNil) := by
  obtain ⟨f, fd, ps, ds, F, hm, kp, b, d⟩ := c.ex
  exact pe_call0 F (hr.mono hk) hg hm kp b d pass0 hdb
end
/-! ### a law's own hand of draws -/
def HandAt (H : Hp) (h d : Addr) : Prop := ∃ (n : Int) (ds : List Int), H h = some (.lst [.ref d, .int n]) ∧ 0 ≤ n ∧ H d = some (.lst (ds.map V.int))
/-- a draw below many -/
def spTake : Sp := fun vs H Q _ => ∃ (h d : Addr) (m : Int), vs = [.ref h, .int m] ∧ HandAt H h d ∧ 0 < m ∧ ∀ r H', 0 ≤ r → r < m → Chg h H H' → HandAt H' h d → Q (.int r) H'
theorem HandAt.ne {H : Hp} {h d : Addr} (x : HandAt H h d) : d ≠ h := by
  obtain ⟨n, ds, h1, h2, h3⟩ := x
  intro e
  subst e
  rw [h1] at h3
  cases ds <;> cases h3
theorem HandAt.same {H H' : Hp} {h d : Addr} (s : Same H H') (x : HandAt H h d) : HandAt H' h d := by
  obtain ⟨n, ds, h1, h2, h3⟩ := x
  exact ⟨n, ds, s _ _ h1, h2, s _ _ h3⟩
theorem HandAt.chg {H H' : Hp} {h d D : Addr} (c : Chg D H H') (x : HandAt H h d) (n1 : h ≠ D) (n2 : d ≠ D) : HandAt H' h d := by
  obtain ⟨n, ds, h1, h2, h3⟩ := x
  exact ⟨n, ds, c.at h1 n1, h2, c.at h3 n2⟩
theorem HandAt.new {H : Hp} {h d D : Addr} (x : HandAt H h d) (n : H D = none) : h ≠ D ∧ d ≠ D := by
  obtain ⟨_, ds, h1, h2, h3⟩ := x
  exact ⟨ne_of_none h1 n, ne_of_none h3 n⟩
/-- all but h is kept -/
def Keep (h : Addr) (H H' : Hp) : Prop := ∀ b o, b ≠ h → H b = some o → H' b = some o
theorem Keep.refl (h : Addr) (H : Hp) : Keep h H H := fun _ _ _ e => e
theorem Keep.trans {h : Addr} {H H1 H2 : Hp} (a : Keep h H H1) (b : Keep h H1 H2) : Keep h H H2 := fun c o n e => b c o n (a c o n e)
theorem Chg.keep {h : Addr} {H H' : Hp} (c : Chg h H H') : Keep h H H' := fun b o n e => c.at e n
theorem _root_.L2.Same.keep {h : Addr} {H H' : Hp} (c : Same H H') : Keep h H H' := fun b o _ e => c b o e
theorem Keep.chg {h D : Addr} {H H1 H2 : Hp} (k : Keep h H H1) (c : Chg D H1 H2) (n : H D = none) : Keep h H H2 := fun b o m e => c.at (k b o m e) (ne_of_none e n)
theorem Keep.free {h D : Addr} {H H1 : Hp} (k : Keep h H H1) (n : H1 D = none) (m : D ≠ h) : H D = none := by
  cases q : H D with
  | none => rfl
  | some o =>
    rw [k D o m q] at n
    cases n
theorem Keep.at {h b : Addr} {H H' : Hp} {o : HO} (c : Keep h H H') (e : H b = some o) (n : b ≠ h) : H' b = some o := c b o n e
theorem atI_of {α : Type} {xs : List α} {i : Int} {j : Nat} {v : α} (e : i = (j : Int)) (h : xs[j]? = some v) : atI xs i = some v := by
  subst e
  exact atI_nat h
/-! ### texts -/
theorem joinL_nil : ∀ ps : List (List Nat), TL.joinL [] ps = ps.flatten
  | [] => rfl
  | [p] => by simp [TL.joinL]
  | p :: q :: r => by
    show p ++ ([] ++ TL.joinL [] (q :: r)) = _
    rw [joinL_nil (q :: r)]
    simp
theorem join_empty (ys : List Str) : (Txt.join (Str.ofString "") ys).cps.toList = (ys.map fun y => y.cps.toList).flatten := by
  rw [TL.join_eq]
  have h := TL.tl_join (Str.ofString "") ys
  have e : TL.tl (Str.ofString "") = [] := by decide +kernel
  rw [e, joinL_nil] at h
  exact h
theorem str_len (z : Str) : z.length = z.cps.toList.length := by simp [Str.length]
theorem str_ext {x y : Str} (h : x.cps.toList = y.cps.toList) : x = y := by
  obtain ⟨a⟩ := x
  obtain ⟨b⟩ := y
  have e : a = b := Array.ext' h
  rw [e]
theorem app_len (x y : Str) : (x ++ y).length = x.length + y.length := by
  show (x.cps ++ y.cps).size = x.cps.size + y.cps.size
  simp
theorem app_tl (x y : Str) : (x ++ y).cps.toList = x.cps.toList ++ y.cps.toList := by
  show (x.cps ++ y.cps).toList = x.cps.toList ++ y.cps.toList
  simp
theorem repS_len (z : Str) (k : Int) : (repS z k).length = k.toNat * z.length := by
  unfold repS
  simp [Str.length, List.length_flatten, List.map_replicate, List.sum_replicate_nat]
theorem cutS_nat (z : Str) {i j : Nat} (hi : i ≤ z.length) (hj : j ≤ z.length) : (cutS z (some (i : Int)) (some (j : Int))).cps.toList = (z.cps.toList.drop i).take (j - i) := by
  unfold cutS
  rw [HT.sIx_nat, HT.sIx_nat, Nat.min_eq_left hi, Nat.min_eq_left hj]
theorem cutS_len2 (z : Str) (i : Nat) : (cutS z (some (i : Int)) (some ((i + 2 : Nat) : Int))).length = min (i + 2) z.length - min i z.length := by
  unfold cutS
  rw [HT.sIx_nat, HT.sIx_nat]
  show ((((z.cps.toList.drop (min i z.length)).take (min (i + 2) z.length - min i z.length)).toArray).size) = _
  rw [List.size_toArray, List.length_take, List.length_drop, Array.length_toList]
  show min _ (z.length - _) = _
  omega
/-- the place behind the longest run from i of signs in p -/
def runEnd (cs p : List Nat) (i : Nat) : Nat := i + ((cs.drop i).takeWhile fun c => decide (c ∈ p)).length
theorem runEnd_out {cs p : List Nat} {i : Nat} (h : cs.length ≤ i) : runEnd cs p i = i := by
  unfold runEnd
  rw [List.drop_of_length_le h]
  rfl
theorem runEnd_no {cs p : List Nat} {i c : Nat} (e : cs[i]? = some c) (h : c ∉ p) : runEnd cs p i = i := by
  unfold runEnd
  have hi : i < cs.length := (List.getElem?_eq_some_iff.mp e).1
  rw [List.drop_eq_getElem_cons hi, (List.getElem?_eq_some_iff.mp e).2, List.takeWhile_cons_of_neg (by simpa using h)]
  rfl
theorem runEnd_yes {cs p : List Nat} {i c : Nat} (e : cs[i]? = some c) (h : c ∈ p) : runEnd cs p i = runEnd cs p (i + 1) := by
  unfold runEnd
  have hi : i < cs.length := (List.getElem?_eq_some_iff.mp e).1
  rw [List.drop_eq_getElem_cons hi, (List.getElem?_eq_some_iff.mp e).2, List.takeWhile_cons_of_pos (by simpa using h), List.length_cons]
  omega
theorem runEnd_ge (cs p : List Nat) (i : Nat) : i ≤ runEnd cs p i := Nat.le_add_right _ _
theorem runEnd_le {cs p : List Nat} {i : Nat} (h : i ≤ cs.length) : runEnd cs p i ≤ cs.length := by
  unfold runEnd
  have h1 := (List.takeWhile_prefix (fun c => decide (c ∈ p)) (l := cs.drop i)).length_le
  rw [List.length_drop] at h1
  omega
theorem runEnd_all {cs p : List Nat} : runEnd cs p 0 = cs.length ↔ ∀ c ∈ cs, c ∈ p := by
  unfold runEnd
  rw [List.drop_zero, Nat.zero_add]
  induction cs with
  | nil => simp
  | cons a r ih =>
    by_cases h : a ∈ p
    · rw [List.takeWhile_cons_of_pos (by simpa using h), List.length_cons, List.length_cons, Nat.add_right_cancel_iff, ih]
      simp [h]
    · rw [List.takeWhile_cons_of_neg (by simpa using h)]
      simp [h]
theorem atI_cps {z : Str} {i : Nat} (h : i < z.length) : ∃ c, z.cps.toList[i]? = some c ∧ atI z.cps.toList (i : Int) = some c := by
  have h1 : i < z.cps.toList.length := by rw [← str_len]; exact h
  exact ⟨_, List.getElem?_eq_getElem h1, atI_nat (List.getElem?_eq_getElem h1)⟩
theorem small1000' {n : Nat} (h : n ≤ 100000) : n < sizeLine := Nat.lt_of_le_of_lt h (by decide)
theorem ixN_nat {n j : Nat} (h : j < n) : ixN n (j : Int) = some j := by
  unfold ixN
  rw [if_pos (by omega), if_pos (by omega)]
  simp
/-- one sign, compared -/
theorem sign_eq {c k : Nat} {y : Str} (hy : y = ⟨#[k]⟩) : decide (V.str ⟨#[c]⟩ = V.str y) = true ↔ c = k := by
  rw [decide_eq_true_iff, hy]
  constructor
  · intro e
    injection e with e
    injection e with e
    have e2 := congrArg Array.toList e
    simpa using e2
  · intro e
    rw [e]
theorem snoc_int {H : Hp} {d : Addr} {ds : List Int} {v : Int} (e : H d = some (.lst (ds.map V.int ++ [.int v]))) : ∃ ds' : List Int, H d = some (.lst (ds'.map V.int)) ∧ ds'.length = ds.length + 1 :=
  ⟨ds ++ [v], by rw [e, List.map_append]; rfl, by rw [List.length_append]; rfl⟩
/-- the items are texts of at most m signs -/
def strsB (m : Nat) (xs : List V) : Bool := xs.all fun x => match x with | .str y => decide (y.length ≤ m) | _ => false
theorem item_str (xs : List V) {m : Nat} (h : strsB m xs = true) {j : Nat} (hj : j < xs.length) : ∃ y : Str, xs[j]? = some (.str y) ∧ y.length ≤ m := by
  have h1 := List.all_eq_true.mp h xs[j] (List.getElem_mem hj)
  cases e : xs[j] with
  | str y =>
    rw [e] at h1
    exact ⟨y, by rw [List.getElem?_eq_getElem hj, e], of_decide_eq_true h1⟩
  | _ =>
    rw [e] at h1
    cases h1
theorem fn_of2 {P : Program} {w : World} {K : PySem.W.Frag} {mg : Str → Option Value} {base : Heap} {x : Str} {st : Stmt} {N ps : List Str} {k : Nat} {sp : Sp} {f : Addr} {fd : FuncData} (F : FunD K x x (defArgs st) (defBody st) (defScope st) [] [] f fd) (S : FnScope N ps (defScope st))
    (len : ∀ vs H Q E, sp vs H Q E → vs.length = ps.length)
    (body : ∀ (f : Addr) (cdv : Value) (A : Around) (outer : List Env) (s : Shared) (H : Hp) (vs : List V) (Q : VK) (E : XK), Room k (A.deeper (envOfC x (defScope st) s.heap.objs.size f cdv)) → sp vs H Q E →
      ∃ t, PSs (cxOf CX0 P w K mg base N x (defScope st) f cdv A outer s H E).nox (defBody st) t ∧ t { nx := fun _ H' => Q .non H', rt := Q } (start N vs) H) : FnOk P w K mg base CX0 (k + 1) f fd ps sp :=
  F.ok S len fun cdv A outer s H vs Q E hr h => by
    obtain ⟨t, h1, h2⟩ := body f cdv A outer s H vs Q E hr h
    exact ⟨t, PSs.nox h1, h2⟩
theorem lz {n : Nat} (h : n ≤ 1000) : n ≤ sizeLine := Nat.le_of_lt (small1000 h)
/-! ### more steps -/
def rStrI : List V → Hp → VK → Prop := fun xs H Q => ∃ i, xs = [.int i] ∧ i.natAbs.log2 < 1920 ∧ Q (.str (toString i)) H
theorem call_strI {X : Cx} : CallR X (.type "str") rStrI := call_str_int
def rLst (K : PySem.W.Frag) : List V → Hp → VK → Prop := fun xs H Q => ∃ p ys, xs = [.ref p] ∧ (SqL K H p ys ∨ SqT K H p ys) ∧ ∀ l, H l = none → Q (.ref l) (upd H l (.lst ys))
theorem call_lst {X : Cx} : CallR X (.type "list") (rLst X.K) := call_list_of
def rTpl (K : PySem.W.Frag) : List V → Hp → VK → Prop := fun xs H Q => ∃ p ys, xs = [.ref p] ∧ SqL K H p ys ∧ ∀ l, H l = none → Q (.ref l) (upd H l (.tup ys))
theorem log_small {n : Nat} (h : n < 10 ^ 40) : n.log2 < 1920 := by
  by_cases h0 : n = 0
  · subst h0
    decide
  · rw [Nat.log2_lt h0]
    exact Nat.lt_of_lt_of_le h (by decide +kernel)
def tJoined (ts : List TE) : TE := fun σ H Q => tJs ts Str.empty σ H fun out H1 => Q (.str out) H1
theorem pe_joined2 {X : Cx} {v1 v2 : Expr} {rest : List Expr} {ts : List TE} {pos : Pos} (h : PJ X (v1 :: v2 :: rest) ts) : PE X (.JoinedStr (v1 :: v2 :: rest) pos) (tJoined ts) := pe_joined h
def KJ (x : V) (acc : Str) (ts : List TE) (σ : L2.St) (H : Hp) (Q : Str → Hp → Prop) : Prop := ∃ y : Str, x = .str y ∧ (acc ++ y).length ≤ sizeLine ∧ tJs ts (acc ++ y) σ H Q
def KF (x : V) (H : Hp) (Q : VK) : Prop := (∃ y : Str, x = .str y ∧ y.length ≤ sizeLine ∧ Q (.str y) H) ∨ ∃ i : Int, x = .int i ∧ i.natAbs.log2 < 1920 ∧ Q (.str (toString i)) H
section
variable {K : PySem.W.Frag} {σ : L2.St} {H : Hp} {Q : VK} {QS : L2.St → Hp → Prop} {QJ : Str → Hp → Prop} {te : TE} {ts : List TE} {v : V} {g : TG}
theorem g_tup {u : TGs} {a : Addr} {xs : List V} {n : Nat} (hs : SqT K H a xs) (hl : xs.length = n) (h : u xs σ H QS) : gTup K n u (.ref a) σ H QS := ⟨a, xs, rfl, hs, hl, h⟩
theorem g_cons {u : TGs} {r : List V} (h : g v σ H fun σ' H' => u r σ' H' QS) : gCons g u (v :: r) σ H QS := ⟨v, r, rfl, h⟩
theorem g_nil (h : QS σ H) : gNil [] σ H QS := ⟨rfl, h⟩
theorem b_strI {i : Int} (hz : i.natAbs < 10 ^ 40) (h : Q (.str (toString i)) H) : rStrI [.int i] H Q := ⟨i, rfl, log_small hz, h⟩
theorem b_lst {a : Addr} {xs : List V} (hs : SqL K H a xs) (h : ∀ p H2, H p = none → Same H H2 → H2 p = some (.lst xs) → Q (.ref p) H2) : rLst K [.ref a] H Q := ⟨a, xs, rfl, .inl hs, new_same h⟩
theorem e_joined (h : tJs ts Str.empty σ H fun out H1 => Q (.str out) H1) : tJoined ts σ H Q := h
theorem j_nil {acc : Str} (h : QJ acc H) : tJs [] acc σ H QJ := h
theorem j_cons {acc : Str} (h : te σ H fun x H1 => KJ x acc ts σ H1 QJ) : tJs (te :: ts) acc σ H QJ := h
theorem k_j {acc y : Str} (hz : (acc ++ y).length ≤ sizeLine) (h : tJs ts (acc ++ y) σ H QJ) : KJ (.str y) acc ts σ H QJ := ⟨y, rfl, hz, h⟩
theorem e_fmt (h : te σ H fun x H1 => KF x H1 Q) : tFmt te σ H Q := h
theorem k_fS {y : Str} (hz : y.length ≤ sizeLine) (h : Q (.str y) H) : KF (.str y) H Q := .inl ⟨y, rfl, hz, h⟩
theorem k_fI {i : Int} (hz : i.natAbs < 10 ^ 40) (h : Q (.str (toString i)) H) : KF (.int i) H Q := .inr ⟨i, rfl, log_small hz, h⟩
end
/-! ### data of tuples -/
mutual
inductive Tp (H : Hp) : V → PyData → Prop
  | non : Tp H .non .none
  | bl (b : Bool) : Tp H (.bl b) (.bool b)
  | int (i : Int) : Tp H (.int i) (.int i)
  | str (x : Str) : Tp H (.str x) (.str x)
  | tup {a : Addr} {xs : List V} {ds : List PyData} : H a = some (.tup xs) → TpAll H xs ds → Tp H (.ref a) (.tuple ds)
inductive TpAll (H : Hp) : List V → List PyData → Prop
  | nil : TpAll H [] []
  | cons {v : V} {vs : List V} {d : PyData} {ds : List PyData} : Tp H v d → TpAll H vs ds → TpAll H (v :: vs) (d :: ds)
end
/-- the tuples stay -/
def TK (H H' : Hp) : Prop := ∀ a xs, H a = some (.tup xs) → H' a = some (.tup xs)
theorem TK.refl (H : Hp) : TK H H := fun _ _ e => e
theorem TK.trans {H H1 H2 : Hp} (a : TK H H1) (b : TK H1 H2) : TK H H2 := fun c xs e => b c xs (a c xs e)
theorem _root_.L2.Same.tk {H H' : Hp} (s : Same H H') : TK H H' := fun a xs e => s a _ e
theorem Chg.tk {l : Addr} {H H' : Hp} {ys : List V} (c : Chg l H H') (e : H l = some (.lst ys)) : TK H H' := fun a xs h => c.at h (ne_of h e (by intro z; cases z))
theorem Keep.tk {h : Addr} {H H' : Hp} {ys : List V} (c : Keep h H H') (e : H h = some (.lst ys)) : TK H H' := fun a xs q => c.at q (ne_of q e (by intro z; cases z))
theorem HandAt.keep_tk {h d : Addr} {H H' : Hp} (x : HandAt H h d) (c : Keep h H H') : TK H H' := by
  obtain ⟨n, ds, h1, _, _⟩ := x
  exact c.tk h1
theorem HandAt.chg_tk {h d : Addr} {H H' : Hp} (x : HandAt H h d) (c : Chg h H H') : TK H H' := x.keep_tk c.keep
mutual
theorem Tp.tk {H H' : Hp} (k : TK H H') : ∀ {d : PyData} {v : V}, Tp H v d → Tp H' v d
  | .none, _, h => by cases h; exact .non
  | .bool b, _, h => by cases h; exact .bl b
  | .int i, _, h => by cases h; exact .int i
  | .str x, _, h => by cases h; exact .str x
  | .tuple ds, _, h => by
    cases h with
    | tup e r => exact .tup (k _ _ e) (TpAll.tk k r)
  | .list _, _, h => by cases h
  | .dict _, _, h => by cases h
theorem TpAll.tk {H H' : Hp} (k : TK H H') : ∀ {ds : List PyData} {vs : List V}, TpAll H vs ds → TpAll H' vs ds
  | [], _, h => by cases h; exact .nil
  | d :: ds, _, h => by
    cases h with
    | cons h1 h2 => exact .cons (Tp.tk k h1) (TpAll.tk k h2)
end
mutual
theorem Tp.dp {K : PySem.W.Frag} {H : Hp} : ∀ {d : PyData} {v : V}, Tp H v d → Dp K H v d
  | .none, _, h => by cases h; exact .non
  | .bool b, _, h => by cases h; exact .bl b
  | .int i, _, h => by cases h; exact .int i
  | .str x, _, h => by cases h; exact .str x
  | .tuple ds, _, h => by
    cases h with
    | tup e r => exact .tup (tup_of e) (TpAll.dp r)
  | .list _, _, h => by cases h
  | .dict _, _, h => by cases h
theorem TpAll.dp {K : PySem.W.Frag} {H : Hp} : ∀ {ds : List PyData} {vs : List V}, TpAll H vs ds → DpAll K H vs ds
  | [], _, h => by cases h; exact .nil
  | d :: ds, _, h => by
    cases h with
    | cons h1 h2 => exact .cons (Tp.dp h1) (TpAll.dp h2)
end
theorem TpAll.get {H : Hp} : ∀ {vs : List V} {ds : List PyData} {i : Nat} {d : PyData}, TpAll H vs ds → ds[i]? = some d → ∃ v, vs[i]? = some v ∧ Tp H v d
  | _, _, _, _, .nil, h => by cases h
  | _, _, 0, _, .cons h1 _, h => by
    cases h
    exact ⟨_, rfl, h1⟩
  | _, _, i + 1, _, .cons _ h2, h => by
    obtain ⟨v, e, q⟩ := TpAll.get h2 (i := i) h
    exact ⟨v, e, q⟩
theorem TpAll.length {H : Hp} : ∀ {vs : List V} {ds : List PyData}, TpAll H vs ds → vs.length = ds.length
  | _, _, .nil => rfl
  | _, _, .cons _ h => by rw [List.length_cons, List.length_cons, h.length]
/-- a def that is never called so -/
theorem cal_never {P : Program} {w : World} {K : PySem.W.Frag} {mg : Str → Option Value} {base : Heap} {x : Str} {st : Stmt} {ps : List Str} {k : Nat} {sp : Sp} (F : DefOk K mg x st)
    (hb : ∀ f fd, FunD K x x (defArgs st) (defBody st) (defScope st) [] [] f fd → Binds K fd ps []) (no : ∀ vs H Q E, ¬ sp vs H Q E) : C8.Cal P w K mg base k x sp [] := by
  obtain ⟨f, fd, F, hm⟩ := F.ex
  exact ⟨f, fd, ps, [], ⟨fun vs H Q E h => absurd h (no _ _ _ _), fun A outer s H args us vs Q E hr he hb hv h => absurd h (no _ _ _ _)⟩, hm, F.kp, hb f fd F, .nil⟩
end Wy
open Wy
local macro_rules | `(tactic| walk_at "tr") => `(tactic| first | assumption | exact lst_of (by assumption) | exact tup_of (by assumption) | (refine Same.seq (by assumption) ?_; walk_at "tr") | (refine seqT (by assumption) ?_; walk_at "tr"))
local macro_rules | `(tactic| walk_at "s") => `(tactic| with_reducible first
  | refine s_seq ?_ | refine s_asg ?_ | refine g_name ?_ | refine s_ret ?_ | refine s_retN ?_ | refine s_drop ?_ | refine s_if ?_ | refine s_next ?_ | refine s_brk ?_ | refine s_ct ?_ | refine s_for ?_
  | refine e_var (by with_unfolding_all rfl) ?_ | refine e_c ?_ | refine e_op ?_ | refine e_un ?_ | refine a_cons ?_ | refine a_nil ?_ | refine c_b ?_ | refine c_call ?_ | refine t_test ?_ | refine k_bl ?_ | refine t_b ?_ | refine t_tr ?_ | refine k_trB ?_ | refine k_trN ?_ | refine k_trI ?_
  | refine t_and ?_ | refine t_or ?_ | refine t_not ?_ | refine e_andV ?_ | refine e_orV ?_ | refine e_notV ?_ | refine e_if ?_ | refine e_chain ?_ | refine e_tup ?_ | refine e_lst ?_ | refine e_sl ?_ | refine p_no ?_ | refine p_so ?_ | refine k_int ?_
  | refine m_bm ?_ | refine g_sub ?_ | refine m_m1 ?_ | refine m_st ?_ | refine e_lc ?_ | refine t_yes ?_ | refine w_r1 ?_ | refine w_r2 ?_ | refine w_l ?_ | refine w_t ?_ | refine w_s ?_ | refine k_s ?_
  | refine s_aug (by with_unfolding_all rfl) ?_ | refine i_add ?_ | refine o_addI ?_ | refine o_I0 ?_ | refine b_int ?_ | refine b_intB ?_ | refine b_abs ?_ | refine u_neg ?_ | refine o_isN ?_ | refine o_ntN ?_ | refine o_inS ?_ | refine o_niS ?_
  | refine g_cons ?_ | refine g_nil ?_ | refine e_joined ?_ | refine j_nil ?_ | refine j_cons ?_ | refine e_fmt ?_
  | refine o_mod (by omega) ?_ | refine o_fdiv (by omega) (by omega) ?_ | refine o_pow (by omega) (by omega) (by omega) ?_ | refine o_mulI2 (by omega) (by omega) ?_ | refine o_mulI1 (by omega) (by omega) ?_)
local macro_rules | `(tactic| walk_at "ss") => `(tactic| repeat walk_at "s")
namespace K01
open PySem PySem.Spec PyProof.Rows L2 Wy
/-! ### the text -/
def top (i : Nat) : Stmt := PySem.Challenge.pw_wayorring_k01_words_of_a_row.main.body.getD i (.Pass ⟨0, 0, 0, 0⟩)
abbrev s_split_row : Stmt := top 8
abbrev n_split_row : List Str := ["text", "words", "at", "end"]
theorem sc_split_row : FnScope n_split_row ["text"] (defScope s_split_row) := C8.fnScope_by (by decide +kernel)
abbrev s_is_name : Stmt := top 9
abbrev n_is_name : List Str := ["word"]
theorem sc_is_name : FnScope n_is_name ["word"] (defScope s_is_name) := C8.fnScope_by (by decide +kernel)
abbrev s_is_number : Stmt := top 10
abbrev n_is_number : List Str := ["word"]
theorem sc_is_number : FnScope n_is_number ["word"] (defScope s_is_number) := C8.fnScope_by (by decide +kernel)
abbrev s_is_numeral : Stmt := top 11
abbrev n_is_numeral : List Str := ["word", "most"]
theorem sc_is_numeral : FnScope n_is_numeral ["word", "most"] (defScope s_is_numeral) := C8.fnScope_by (by decide +kernel)
abbrev s_word_end : Stmt := top 12
abbrev n_word_end : List Str := ["text", "at"]
theorem sc_word_end : FnScope n_word_end ["text", "at"] (defScope s_word_end) := C8.fnScope_by (by decide +kernel)
abbrev s_run_end : Stmt := top 13
abbrev n_run_end : List Str := ["text", "at", "characters"]
theorem sc_run_end : FnScope n_run_end ["text", "at", "characters"] (defScope s_run_end) := C8.fnScope_by (by decide +kernel)
abbrev s_law_draws : Stmt := top 15
abbrev n_law_draws : List Str := ["script", "many", "cell", "rests", "draws", "k", "at", "mixed"]
theorem sc_law_draws : FnScope n_law_draws ["script", "many"] (defScope s_law_draws) := C8.fnScope_by (by decide +kernel)
abbrev s_law_take : Stmt := top 16
abbrev n_law_take : List Str := ["hand", "many", "at", "draws"]
theorem sc_law_take : FnScope n_law_take ["hand", "many"] (defScope s_law_take) := C8.fnScope_by (by decide +kernel)
abbrev s_law_letters : Stmt := top 17
abbrev n_law_letters : List Str := []
theorem sc_law_letters : FnScope n_law_letters [] (defScope s_law_letters) := C8.fnScope_by (by decide +kernel)
abbrev s_law_reserved : Stmt := top 18
abbrev n_law_reserved : List Str := ["words"]
theorem sc_law_reserved : FnScope n_law_reserved [] (defScope s_law_reserved) := C8.fnScope_by (by decide +kernel)
abbrev s_law_is_name : Stmt := top 19
abbrev n_law_is_name : List Str := ["word", "char"]
theorem sc_law_is_name : FnScope n_law_is_name ["word"] (defScope s_law_is_name) := C8.fnScope_by (by decide +kernel)
abbrev s_law_is_number : Stmt := top 20
abbrev n_law_is_number : List Str := ["word", "char"]
theorem sc_law_is_number : FnScope n_law_is_number ["word"] (defScope s_law_is_number) := C8.fnScope_by (by decide +kernel)
abbrev s_law_run_of : Stmt := top 21
abbrev n_law_run_of : List Str := ["hand", "chars", "most", "k"]
theorem sc_law_run_of : FnScope n_law_run_of ["hand", "chars", "most"] (defScope s_law_run_of) := C8.fnScope_by (by decide +kernel)
abbrev s_law_piece : Stmt := top 22
abbrev n_law_piece : List Str := ["hand", "signs", "foreign", "kind"]
theorem sc_law_piece : FnScope n_law_piece ["hand"] (defScope s_law_piece) := C8.fnScope_by (by decide +kernel)
abbrev s_law_end_of : Stmt := top 23
abbrev n_law_end_of : List Str := ["text", "at", "chars", "k"]
theorem sc_law_end_of : FnScope n_law_end_of ["text", "at", "chars"] (defScope s_law_end_of) := C8.fnScope_by (by decide +kernel)
abbrev s_law_words : Stmt := top 24
abbrev n_law_words : List Str := ["text", "words", "at", "step", "end"]
theorem sc_law_words : FnScope n_law_words ["text"] (defScope s_law_words) := C8.fnScope_by (by decide +kernel)
abbrev s_law_is_right : Stmt := top 25
abbrev n_law_is_right : List Str := ["found", "expected", "at"]
theorem sc_law_is_right : FnScope n_law_is_right ["found", "expected"] (defScope s_law_is_right) := C8.fnScope_by (by decide +kernel)
abbrev s_law : Stmt := top 26
abbrev n_law : List Str := ["script", "hand", "pieces", "k", "text", "expected", "found", "odd", "again", "word", "answers"]
theorem sc_law : FnScope n_law ["script"] (defScope s_law) := C8.fnScope_by (by decide +kernel)
abbrev c_LONG_SIGNS : List V := [.str "<=", .str ">=", .str "==", .str "!="]
abbrev c_RESERVED : List V := [.str "input", .str "from", .str "to", .str "list", .str "def", .str "let", .str "if", .str "else", .str "end", .str "while", .str "at", .str "most", .str "check", .str "refuse", .str "answer", .str "return", .str "skip", .str "and", .str "or", .str "not", .str "row", .str "yes", .str "no", .str "turn", .str "fault", .str "when", .str "then"]
/-! ### what the top has made -/
structure Tx (K : PySem.W.Frag) (mg : Str → Option Value) : Prop where
  d_split_row : DefOk K mg "split_row" s_split_row
  d_is_name : DefOk K mg "is_name" s_is_name
  d_is_number : DefOk K mg "is_number" s_is_number
  d_is_numeral : DefOk K mg "is_numeral" s_is_numeral
  d_word_end : DefOk K mg "_word_end" s_word_end
  d_run_end : DefOk K mg "_run_end" s_run_end
  d_law_draws : DefOk K mg "_law_draws" s_law_draws
  d_law_take : DefOk K mg "_law_take" s_law_take
  d_law_letters : DefOk K mg "_law_letters" s_law_letters
  d_law_reserved : DefOk K mg "_law_reserved" s_law_reserved
  d_law_is_name : DefOk K mg "_law_is_name" s_law_is_name
  d_law_is_number : DefOk K mg "_law_is_number" s_law_is_number
  d_law_run_of : DefOk K mg "_law_run_of" s_law_run_of
  d_law_piece : DefOk K mg "_law_piece" s_law_piece
  d_law_end_of : DefOk K mg "_law_end_of" s_law_end_of
  d_law_words : DefOk K mg "_law_words" s_law_words
  d_law_is_right : DefOk K mg "_law_is_right" s_law_is_right
  d_law : DefOk K mg "law" s_law
  g_LETTERS : ∃ u, mg "LETTERS" = some u ∧ RelV (.str "abcdefghijklmnopqrstuvwxyz") u
  g_DIGITS : ∃ u, mg "DIGITS" = some u ∧ RelV (.str "0123456789") u
  g_SHORT_SIGNS : ∃ u, mg "SHORT_SIGNS" = some u ∧ RelV (.str "<>=+-()[],:") u
  g_MOST_LETTERS : ∃ u, mg "MOST_LETTERS" = some u ∧ RelV (.int 12) u
  g_MOST_DIGITS : ∃ u, mg "MOST_DIGITS" = some u ∧ RelV (.int 10) u
  g_LONG_SIGNS : ∃ u, mg "LONG_SIGNS" = some u ∧ RelV (.ref (He.ga K "LONG_SIGNS")) u
  t_LONG_SIGNS : ∀ H, SqT K H (He.ga K "LONG_SIGNS") c_LONG_SIGNS
  g_RESERVED : ∃ u, mg "RESERVED" = some u ∧ RelV (.ref (He.ga K "RESERVED")) u
  t_RESERVED : ∀ H, SqT K H (He.ga K "RESERVED") c_RESERVED
  z_abs : mg "abs" = none
  z_bool : mg "bool" = none
  z_int : mg "int" = none
  z_isinstance : mg "isinstance" = none
  z_len : mg "len" = none
  z_list : mg "list" = none
  z_range : mg "range" = none
  z_str : mg "str" = none
/-! ### the head -/
def fn : List He.DefD := [⟨("split_row", none), "split_row", "split_row", defArgs s_split_row, defBody s_split_row, defScope s_split_row, [], []⟩, ⟨("is_name", none), "is_name", "is_name", defArgs s_is_name, defBody s_is_name, defScope s_is_name, [], []⟩, ⟨("is_number", none), "is_number", "is_number", defArgs s_is_number, defBody s_is_number, defScope s_is_number, [], []⟩, ⟨("is_numeral", none), "is_numeral", "is_numeral", defArgs s_is_numeral, defBody s_is_numeral, defScope s_is_numeral, [], []⟩, ⟨("_word_end", none), "_word_end", "_word_end", defArgs s_word_end, defBody s_word_end, defScope s_word_end, [], []⟩, ⟨("_run_end", none), "_run_end", "_run_end", defArgs s_run_end, defBody s_run_end, defScope s_run_end, [], []⟩, ⟨("_law_draws", none), "_law_draws", "_law_draws", defArgs s_law_draws, defBody s_law_draws, defScope s_law_draws, [], []⟩, ⟨("_law_take", none), "_law_take", "_law_take", defArgs s_law_take, defBody s_law_take, defScope s_law_take, [], []⟩, ⟨("_law_letters", none), "_law_letters", "_law_letters", defArgs s_law_letters, defBody s_law_letters, defScope s_law_letters, [], []⟩, ⟨("_law_reserved", none), "_law_reserved", "_law_reserved", defArgs s_law_reserved, defBody s_law_reserved, defScope s_law_reserved, [], []⟩, ⟨("_law_is_name", none), "_law_is_name", "_law_is_name", defArgs s_law_is_name, defBody s_law_is_name, defScope s_law_is_name, [], []⟩, ⟨("_law_is_number", none), "_law_is_number", "_law_is_number", defArgs s_law_is_number, defBody s_law_is_number, defScope s_law_is_number, [], []⟩, ⟨("_law_run_of", none), "_law_run_of", "_law_run_of", defArgs s_law_run_of, defBody s_law_run_of, defScope s_law_run_of, [], []⟩, ⟨("_law_piece", none), "_law_piece", "_law_piece", defArgs s_law_piece, defBody s_law_piece, defScope s_law_piece, [], []⟩, ⟨("_law_end_of", none), "_law_end_of", "_law_end_of", defArgs s_law_end_of, defBody s_law_end_of, defScope s_law_end_of, [], []⟩, ⟨("_law_words", none), "_law_words", "_law_words", defArgs s_law_words, defBody s_law_words, defScope s_law_words, [], []⟩, ⟨("_law_is_right", none), "_law_is_right", "_law_is_right", defArgs s_law_is_right, defBody s_law_is_right, defScope s_law_is_right, [], []⟩, ⟨("law", none), "law", "law", defArgs s_law, defBody s_law, defScope s_law, [], []⟩]
def fa : List He.Fa := [.glo "split_row", .glo "is_name", .glo "is_number", .glo "is_numeral", .glo "_word_end", .glo "_run_end", .glo "_law_draws", .glo "_law_take", .glo "_law_letters", .glo "_law_reserved", .glo "_law_is_name", .glo "_law_is_number", .glo "_law_run_of", .glo "_law_piece", .glo "_law_end_of", .glo "_law_words", .glo "_law_is_right", .glo "law", .str "LETTERS" "abcdefghijklmnopqrstuvwxyz", .str "DIGITS" "0123456789", .str "SHORT_SIGNS" "<>=+-()[],:", .int "MOST_LETTERS" 12, .int "MOST_DIGITS" 10, .glo "LONG_SIGNS", .glo "RESERVED", .free "abs", .free "bool", .free "int", .free "isinstance", .free "len", .free "list", .free "range", .free "str"]
def ts : List He.Tab := []
def ex (K : PySem.W.Frag) : Bool := He.tupB K "LONG_SIGNS" [.str "<=", .str ">=", .str "==", .str "!="] && He.tupB K "RESERVED" [.str "input", .str "from", .str "to", .str "list", .str "def", .str "let", .str "if", .str "else", .str "end", .str "while", .str "at", .str "most", .str "check", .str "refuse", .str "answer", .str "return", .str "skip", .str "and", .str "or", .str "not", .str "row", .str "yes", .str "no", .str "turn", .str "fault", .str "when", .str "then"]
abbrev R : PySem.W.OpenRow := PySem.W.OpenLaw.row PySem.Challenge.rw_wayorring_k01_words_of_a_row
abbrev hk : PySem.W.Hook := He.hookX 4 fa fn ts [] ex
def ob (s : PySem.W.SharedT) : He.AlX := He.obsX 4 fa fn ts [] ex (HandSHeadRun.getT s)
theorem ob_eq (s : PySem.W.SharedT) : ob s = hk.obs s.abs := He.obsX_eq (HandSHeadRun.getT_eq s)
def loose : List Str := (["LETTERS", "DIGITS", "LONG_SIGNS", "SHORT_SIGNS", "RESERVED", "MOST_LETTERS", "MOST_DIGITS", "split_row", "is_name", "is_number", "is_numeral", "_word_end", "_run_end", "_law_draws", "_law_take", "_law_letters", "_law_reserved", "_law_is_name", "_law_is_number", "_law_run_of", "_law_piece", "_law_end_of", "_law_words", "_law_is_right"] : List Str)
set_option maxHeartbeats 0 in
theorem run (w : World) : HandSHeadRun.RunEq R (PySem.W.view R.prog [26]) hk ob 20000 loose w := by
  intro os
  kernel_rfl
theorem tx_of {w : World} {K : PySem.W.Frag} {h h2 : Heap} {mg : Str → Option Value} (X : K.In h) (G : h.Ns mainGlobals mg) (c2 : He.SaysX fa fn ts [] ex w h2 K) : Tx K mg := by
  have c := c2.t.d
  have m : ex K = true := c2.more
  unfold ex at m
  obtain ⟨l1, m1⟩ := He.ba m
  refine ⟨?_, ?_, ?_, ?_, ?_, ?_, ?_, ?_, ?_, ?_, ?_, ?_, ?_, ?_, ?_, ?_, ?_, ?_, ?_, ?_, ?_, ?_, ?_, ?_, ?_, ?_, ?_, ?_, ?_, ?_, ?_, ?_, ?_, ?_, ?_⟩
  · obtain ⟨fd, F⟩ := c.def_ 0 rfl
    exact ⟨_, fd, F, He.glo_ok X G (c.fact 0 (f := .glo "split_row") rfl)⟩
  · obtain ⟨fd, F⟩ := c.def_ 1 rfl
    exact ⟨_, fd, F, He.glo_ok X G (c.fact 1 (f := .glo "is_name") rfl)⟩
  · obtain ⟨fd, F⟩ := c.def_ 2 rfl
    exact ⟨_, fd, F, He.glo_ok X G (c.fact 2 (f := .glo "is_number") rfl)⟩
  · obtain ⟨fd, F⟩ := c.def_ 3 rfl
    exact ⟨_, fd, F, He.glo_ok X G (c.fact 3 (f := .glo "is_numeral") rfl)⟩
  · obtain ⟨fd, F⟩ := c.def_ 4 rfl
    exact ⟨_, fd, F, He.glo_ok X G (c.fact 4 (f := .glo "_word_end") rfl)⟩
  · obtain ⟨fd, F⟩ := c.def_ 5 rfl
    exact ⟨_, fd, F, He.glo_ok X G (c.fact 5 (f := .glo "_run_end") rfl)⟩
  · obtain ⟨fd, F⟩ := c.def_ 6 rfl
    exact ⟨_, fd, F, He.glo_ok X G (c.fact 6 (f := .glo "_law_draws") rfl)⟩
  · obtain ⟨fd, F⟩ := c.def_ 7 rfl
    exact ⟨_, fd, F, He.glo_ok X G (c.fact 7 (f := .glo "_law_take") rfl)⟩
  · obtain ⟨fd, F⟩ := c.def_ 8 rfl
    exact ⟨_, fd, F, He.glo_ok X G (c.fact 8 (f := .glo "_law_letters") rfl)⟩
  · obtain ⟨fd, F⟩ := c.def_ 9 rfl
    exact ⟨_, fd, F, He.glo_ok X G (c.fact 9 (f := .glo "_law_reserved") rfl)⟩
  · obtain ⟨fd, F⟩ := c.def_ 10 rfl
    exact ⟨_, fd, F, He.glo_ok X G (c.fact 10 (f := .glo "_law_is_name") rfl)⟩
  · obtain ⟨fd, F⟩ := c.def_ 11 rfl
    exact ⟨_, fd, F, He.glo_ok X G (c.fact 11 (f := .glo "_law_is_number") rfl)⟩
  · obtain ⟨fd, F⟩ := c.def_ 12 rfl
    exact ⟨_, fd, F, He.glo_ok X G (c.fact 12 (f := .glo "_law_run_of") rfl)⟩
  · obtain ⟨fd, F⟩ := c.def_ 13 rfl
    exact ⟨_, fd, F, He.glo_ok X G (c.fact 13 (f := .glo "_law_piece") rfl)⟩
  · obtain ⟨fd, F⟩ := c.def_ 14 rfl
    exact ⟨_, fd, F, He.glo_ok X G (c.fact 14 (f := .glo "_law_end_of") rfl)⟩
  · obtain ⟨fd, F⟩ := c.def_ 15 rfl
    exact ⟨_, fd, F, He.glo_ok X G (c.fact 15 (f := .glo "_law_words") rfl)⟩
  · obtain ⟨fd, F⟩ := c.def_ 16 rfl
    exact ⟨_, fd, F, He.glo_ok X G (c.fact 16 (f := .glo "_law_is_right") rfl)⟩
  · obtain ⟨fd, F⟩ := c.def_ 17 rfl
    exact ⟨_, fd, F, He.glo_ok X G (c.fact 17 (f := .glo "law") rfl)⟩
  · obtain ⟨t, e⟩ := He.str_ok X G (c.fact 18 (f := .str "LETTERS" "abcdefghijklmnopqrstuvwxyz") rfl)
    exact ⟨_, e, t, rfl⟩
  · obtain ⟨t, e⟩ := He.str_ok X G (c.fact 19 (f := .str "DIGITS" "0123456789") rfl)
    exact ⟨_, e, t, rfl⟩
  · obtain ⟨t, e⟩ := He.str_ok X G (c.fact 20 (f := .str "SHORT_SIGNS" "<>=+-()[],:") rfl)
    exact ⟨_, e, t, rfl⟩
  · obtain ⟨t, e⟩ := He.int_ok X G (c.fact 21 (f := .int "MOST_LETTERS" 12) rfl)
    exact ⟨_, e, t, rfl⟩
  · obtain ⟨t, e⟩ := He.int_ok X G (c.fact 22 (f := .int "MOST_DIGITS" 10) rfl)
    exact ⟨_, e, t, rfl⟩
  · exact ⟨_, He.glo_ok X G (c.fact 23 (f := .glo "LONG_SIGNS") rfl), rfl⟩
  · exact He.tupB_ok l1
  · exact ⟨_, He.glo_ok X G (c.fact 24 (f := .glo "RESERVED") rfl), rfl⟩
  · exact He.tupB_ok m1
  · exact He.free_ok X G (c.fact 25 (f := .free "abs") rfl)
  · exact He.free_ok X G (c.fact 26 (f := .free "bool") rfl)
  · exact He.free_ok X G (c.fact 27 (f := .free "int") rfl)
  · exact He.free_ok X G (c.fact 28 (f := .free "isinstance") rfl)
  · exact He.free_ok X G (c.fact 29 (f := .free "len") rfl)
  · exact He.free_ok X G (c.fact 30 (f := .free "list") rfl)
  · exact He.free_ok X G (c.fact 31 (f := .free "range") rfl)
  · exact He.free_ok X G (c.fact 32 (f := .free "str") rfl)
def spLaw (K : PySem.W.Frag) : Sp := fun vs H Q _ => ∃ (a : Addr) (ns : List Int), vs = [.ref a] ∧ SqL K H a (ns.map V.int) ∧ ns.length ≤ 63 ∧ ∀ H', Q (.bl true) H'
end K01
namespace K01
open PySem PySem.Spec PyProof.Rows L2 Wy
/-! ### the mathematics -/
abbrev LET : Str := "abcdefghijklmnopqrstuvwxyz"
abbrev DIG : Str := "0123456789"
abbrev SHO : Str := "<>=+-()[],:"
abbrev tl (z : Str) : List Nat := z.cps.toList
/-- two signs at i that are one word -/
def pairAt (z : Str) (i : Nat) : Bool := inV (.str (cutS z (some (i : Int)) (some ((i + 2 : Nat) : Int)))) c_LONG_SIGNS
theorem pair_len {z : Str} {i : Nat} (h : pairAt z i = true) : i + 2 ≤ z.length := by
  unfold pairAt inV c_LONG_SIGNS at h
  have hl := cutS_len2 z i
  have h2 : (cutS z (some (i : Int)) (some ((i + 2 : Nat) : Int))).length = 2 := by
    simp only [List.any_cons, List.any_nil, Bool.or_false, Bool.or_eq_true] at h
    have key : ∀ w : Str, w.length = 2 → eqV (.str w) (.str (cutS z (some (i : Int)) (some ((i + 2 : Nat) : Int)))) = true → (cutS z (some (i : Int)) (some ((i + 2 : Nat) : Int))).length = 2 := fun w hw e => by
      have e2 : (w == cutS z (some (i : Int)) (some ((i + 2 : Nat) : Int))) = true := e
      rw [← eq_of_beq e2]
      exact hw
    rcases h with h | h | h | h
    · exact key _ (by decide +kernel) h
    · exact key _ (by decide +kernel) h
    · exact key _ (by decide +kernel) h
    · exact key _ (by decide +kernel) h
  omega
/-- the place behind the word that begins at i with the sign c -/
def wordEnd (z : Str) (i c : Nat) : Nat :=
  if c ∈ tl LET then runEnd (tl z) (tl LET) i else if c ∈ tl DIG then runEnd (tl z) (tl DIG) i else if pairAt z i = true then i + 2 else if c ∈ tl SHO then i + 1 else i
theorem wordEnd_ge (z : Str) (i c : Nat) : i ≤ wordEnd z i c := by
  unfold wordEnd
  split
  · exact runEnd_ge _ _ _
  · split
    · exact runEnd_ge _ _ _
    · split
      · omega
      · split <;> omega
theorem wordEnd_le {z : Str} {i c : Nat} (e : (tl z)[i]? = some c) : wordEnd z i c ≤ z.length := by
  have hi : i < (tl z).length := (List.getElem?_eq_some_iff.mp e).1
  have hl : z.length = (tl z).length := str_len z
  unfold wordEnd
  split
  · rw [hl]
    exact runEnd_le (Nat.le_of_lt hi)
  · split
    · rw [hl]
      exact runEnd_le (Nat.le_of_lt hi)
    · split
      · rename_i h
        exact pair_len h
      · split <;> omega
def scan (z : Str) : Nat → Nat → List Str → Option (List Str)
  | 0, _, acc => some acc
  | n + 1, i, acc => match (tl z)[i]? with
    | none => some acc
    | some c => if c = 32 then scan z n (i + 1) acc else if wordEnd z i c = i then none else scan z n (wordEnd z i c) (acc ++ [cutS z (some (i : Int)) (some (wordEnd z i c : Int))])
theorem scan_out {z : Str} {n i : Nat} {acc : List Str} (h : z.length ≤ i) : scan z n i acc = some acc := by
  cases n with
  | zero => rfl
  | succ n =>
    have e : (tl z)[i]? = none := List.getElem?_eq_none_iff.mpr (by rw [str_len] at h; exact h)
    unfold scan
    rw [e]
theorem scan_fuel {z : Str} : ∀ {n m i : Nat} {acc : List Str}, z.length - i ≤ n → z.length - i ≤ m → scan z n i acc = scan z m i acc
  | 0, m, i, acc, h, _ => by
    rw [scan_out (n := m) (by omega)]
    rfl
  | n + 1, 0, i, acc, _, h => by
    rw [scan_out (n := n + 1) (by omega)]
    rfl
  | n + 1, m + 1, i, acc, h1, h2 => by
    unfold scan
    cases e : (tl z)[i]? with
    | none => rfl
    | some c =>
      have hi : i < z.length := by
        rw [str_len]
        exact (List.getElem?_eq_some_iff.mp e).1
      show (if c = 32 then _ else if _ then _ else _) = (if c = 32 then _ else if _ then _ else _)
      split
      · exact scan_fuel (by omega) (by omega)
      · split
        · rfl
        · have g := wordEnd_ge z i c
          exact scan_fuel (by omega) (by omega)
/-- the words from i on, behind those found -/
def from_ (z : Str) (i : Nat) (acc : List Str) : Option (List Str) := scan z (z.length - i) i acc
theorem from_out {z : Str} {i : Nat} {acc : List Str} (h : z.length ≤ i) : from_ z i acc = some acc := scan_out h
theorem from_step {z : Str} {i c : Nat} {acc : List Str} (e : (tl z)[i]? = some c) :
    from_ z i acc = if c = 32 then from_ z (i + 1) acc else if wordEnd z i c = i then none else from_ z (wordEnd z i c) (acc ++ [cutS z (some (i : Int)) (some (wordEnd z i c : Int))]) := by
  have hi : i < z.length := by
    rw [str_len]
    exact (List.getElem?_eq_some_iff.mp e).1
  unfold from_
  obtain ⟨n, hn⟩ : ∃ n, z.length - i = n + 1 := ⟨z.length - i - 1, by omega⟩
  rw [hn]
  show (match (tl z)[i]? with | none => some acc | some c => if c = 32 then scan z n (i + 1) acc else if wordEnd z i c = i then none else scan z n (wordEnd z i c) (acc ++ [cutS z (some (i : Int)) (some (wordEnd z i c : Int))])) = _
  rw [e]
  have g := wordEnd_ge z i c
  show (if c = 32 then _ else if _ then _ else _) = (if c = 32 then _ else if _ then _ else _)
  split
  · exact scan_fuel (by omega) (by omega)
  · split
    · rfl
    · exact scan_fuel (by omega) (by omega)
def wordsOf (z : Str) : Option (List Str) := from_ z 0 []
def nameW (z : Str) : Bool := decide (1 ≤ z.length) && decide (z.length ≤ 12) && !inV (.str z) c_RESERVED && decide (∀ c ∈ tl z, c ∈ tl LET)
def numberW (z : Str) : Bool := decide (1 ≤ z.length) && decide (z.length ≤ 10) && (decide (∀ c ∈ tl z, c ∈ tl DIG)) && (decide (z.length = 1) || !decide ((tl z)[0]? = some 48))
end K01
namespace K01
open PySem PySem.Spec PyProof.Rows L2 Wy
/-! ### more of the mathematics -/
theorem scan_words {z : Str} : ∀ {n i : Nat} {acc ws : List Str}, scan z n i acc = some ws → acc.length ≤ i → i ≤ z.length → (∀ y ∈ acc, y.length ≤ z.length) → ws.length ≤ z.length ∧ ∀ y ∈ ws, y.length ≤ z.length
  | 0, i, acc, ws, h, l, hi, ha => by
    have e : acc = ws := Option.some.inj h
    rw [← e]
    exact ⟨by omega, ha⟩
  | n + 1, i, acc, ws, h, l, hi, ha => by
    unfold scan at h
    cases e : (tl z)[i]? with
    | none =>
      rw [e] at h
      have e : acc = ws := Option.some.inj h
      rw [← e]
      exact ⟨by omega, ha⟩
    | some c =>
      rw [e] at h
      have hi1 : i < z.length := by
        rw [str_len]
        exact (List.getElem?_eq_some_iff.mp e).1
      have h2 : (if c = 32 then scan z n (i + 1) acc else if wordEnd z i c = i then none else scan z n (wordEnd z i c) (acc ++ [cutS z (some (i : Int)) (some (wordEnd z i c : Int))])) = some ws := h
      have g := wordEnd_ge z i c
      split at h2
      · exact scan_words h2 (by omega) (by omega) ha
      · split at h2
        · cases h2
        · refine scan_words h2 (by rw [List.length_append]; show acc.length + 1 ≤ _; omega) (wordEnd_le e) fun y hy => ?_
          rcases List.mem_append.mp hy with hy | hy
          · exact ha y hy
          · rw [show y = _ by simpa using hy]
            exact cutS_length _ _ _
theorem wordsOf_small {z : Str} {ws : List Str} (h : wordsOf z = some ws) : ws.length ≤ z.length ∧ ∀ y ∈ ws, y.length ≤ z.length :=
  scan_words h (Nat.le_refl _) (Nat.zero_le _) (by simp)
theorem pair_cps {z : Str} {i : Nat} : pairAt z i = true ↔ ∃ a, (tl z)[i]? = some a ∧ (tl z)[i + 1]? = some 61 ∧ (a = 60 ∨ a = 62 ∨ a = 61 ∨ a = 33) := by
  have key : ∀ (w : Str) (a : Nat), tl w = [a, 61] → (eqV (.str w) (.str (cutS z (some (i : Int)) (some ((i + 2 : Nat) : Int)))) = true ↔ (tl z)[i]? = some a ∧ (tl z)[i + 1]? = some 61) := fun w a hw => by
    have e1 : eqV (.str w) (.str (cutS z (some (i : Int)) (some ((i + 2 : Nat) : Int)))) = (w == cutS z (some (i : Int)) (some ((i + 2 : Nat) : Int))) := rfl
    rw [e1, beq_iff_eq]
    constructor
    · intro e
      have hl := cutS_len2 z i
      have h2 : (cutS z (some (i : Int)) (some ((i + 2 : Nat) : Int))).length = 2 := by
        rw [← e, str_len]
        show (tl w).length = 2
        rw [hw]
        rfl
      have h3 : i + 2 ≤ z.length := by omega
      have h4 := cutS_nat z (i := i) (j := i + 2) (by omega) h3
      rw [← e, show w.cps.toList = [a, 61] from hw, show i + 2 - i = 2 by omega] at h4
      have h5 : ((tl z).drop i)[0]? = some a := by
        have h6 : (((tl z).drop i).take 2)[0]? = some a := by rw [← h4]; rfl
        rw [List.getElem?_take] at h6
        simpa using h6
      have h7 : ((tl z).drop i)[1]? = some 61 := by
        have h6 : (((tl z).drop i).take 2)[1]? = some 61 := by rw [← h4]; rfl
        rw [List.getElem?_take] at h6
        simpa using h6
      rw [List.getElem?_drop] at h5 h7
      exact ⟨by simpa using h5, h7⟩
    · rintro ⟨h1, h2⟩
      have l1 := (List.getElem?_eq_some_iff.mp h1)
      have l2 := (List.getElem?_eq_some_iff.mp h2)
      obtain ⟨l1, v1⟩ := l1
      obtain ⟨l2, v2⟩ := l2
      have hz : z.length = (tl z).length := str_len z
      refine str_ext ?_
      rw [cutS_nat z (i := i) (j := i + 2) (by omega) (by omega), show w.cps.toList = [a, 61] from hw, show i + 2 - i = 2 by omega]
      show [a, 61] = List.take 2 (List.drop i (tl z))
      rw [List.drop_eq_getElem_cons l1, List.drop_eq_getElem_cons l2, v1, v2]
      rfl
  unfold pairAt inV c_LONG_SIGNS
  simp only [List.any_cons, List.any_nil, Bool.or_false, Bool.or_eq_true]
  rw [key _ 60 (by decide +kernel), key _ 62 (by decide +kernel), key _ 61 (by decide +kernel), key _ 33 (by decide +kernel)]
  constructor
  · rintro (⟨h, h'⟩ | ⟨h, h'⟩ | ⟨h, h'⟩ | ⟨h, h'⟩)
    · exact ⟨_, h, h', by omega⟩
    · exact ⟨_, h, h', by omega⟩
    · exact ⟨_, h, h', by omega⟩
    · exact ⟨_, h, h', by omega⟩
  · rintro ⟨a, h, h', (rfl | rfl | rfl | rfl)⟩
    · exact .inl ⟨h, h'⟩
    · exact .inr (.inl ⟨h, h'⟩)
    · exact .inr (.inr (.inl ⟨h, h'⟩))
    · exact .inr (.inr (.inr ⟨h, h'⟩))
theorem space_end {z : Str} {i : Nat} (e : (tl z)[i]? = some 32) : wordEnd z i 32 = i := by
  unfold wordEnd
  rw [if_neg (by decide +kernel), if_neg (by decide +kernel), if_neg, if_neg (by decide +kernel)]
  rw [pair_cps]
  rintro ⟨a, h, _, h2⟩
  rw [e] at h
  have : 32 = a := Option.some.inj h
  omega
/-! spaces around a text -/
structure Around_ (z y : Str) (n : Nat) : Prop where
  eq : tl y = List.replicate n 32 ++ tl z ++ [32, 32]
section
variable {z y : Str} {n : Nat}
theorem Around_.at (A : Around_ z y n) {i : Nat} (h : i < (tl z).length) : (tl y)[n + i]? = (tl z)[i]? := by
  rw [A.eq, List.append_assoc, List.getElem?_append_right (by simp), List.length_replicate, Nat.add_sub_cancel_left, List.getElem?_append_left h]
theorem Around_.behind (A : Around_ z y n) {i : Nat} (h : i = (tl z).length ∨ i = (tl z).length + 1) : (tl y)[n + i]? = some 32 := by
  rw [A.eq, List.append_assoc, List.getElem?_append_right (by simp), List.length_replicate, Nat.add_sub_cancel_left, List.getElem?_append_right (by omega)]
  rcases h with rfl | rfl
  · simp
  · rw [Nat.add_sub_cancel_left]
    rfl
theorem Around_.ahead (A : Around_ z y n) {i : Nat} (h : i < n) : (tl y)[i]? = some 32 := by
  rw [A.eq, List.append_assoc, List.getElem?_append_left (by simpa using h), List.getElem?_replicate, if_pos h]
theorem Around_.len (A : Around_ z y n) : y.length = n + z.length + 2 := by
  have hz : z.length = (tl z).length := str_len z
  have hy : y.length = (tl y).length := str_len y
  rw [hy, hz, A.eq, List.length_append, List.length_append, List.length_replicate]
  rfl
theorem Around_.run (A : Around_ z y n) {p : List Nat} (hp : 32 ∉ p) : ∀ {k i : Nat}, k = (tl z).length - i → i ≤ (tl z).length → runEnd (tl y) p (n + i) = n + runEnd (tl z) p i
  | 0, i, hk, hi => by
    have e : i = (tl z).length := by omega
    rw [runEnd_out (cs := tl z) (by omega), runEnd_no (A.behind (.inl e)) hp]
  | k + 1, i, hk, hi => by
    have hi2 : i < (tl z).length := by omega
    have g := A.at hi2
    have e := List.getElem?_eq_getElem hi2
    rw [e] at g
    by_cases h : (tl z)[i] ∈ p
    · rw [runEnd_yes g h, runEnd_yes e h, Nat.add_assoc, A.run hp (k := k) (by omega) (by omega)]
    · rw [runEnd_no g h, runEnd_no e h]
theorem Around_.pair (A : Around_ z y n) {i : Nat} (h : i < (tl z).length) : pairAt y (n + i) = pairAt z i := by
  rw [Bool.eq_iff_iff, pair_cps, pair_cps, A.at h]
  by_cases h2 : i + 1 < (tl z).length
  · rw [Nat.add_assoc, A.at h2]
  · have e1 : (tl y)[n + i + 1]? = some 32 := by
      rw [Nat.add_assoc]
      exact A.behind (.inl (by omega))
    have e2 : (tl z)[i + 1]? = none := List.getElem?_eq_none_iff.mpr (by omega)
    rw [e1, e2]
    constructor
    · rintro ⟨a, _, h, _⟩
      cases h
    · rintro ⟨a, _, h, _⟩
      cases h
theorem Around_.word (A : Around_ z y n) {i c : Nat} (h : i < (tl z).length) : wordEnd y (n + i) c = n + wordEnd z i c := by
  unfold wordEnd
  rw [A.pair h, A.run (by decide +kernel) rfl (Nat.le_of_lt h), A.run (by decide +kernel) rfl (Nat.le_of_lt h)]
  split
  · rfl
  · split
    · rfl
    · split
      · omega
      · split <;> omega
theorem Around_.cut (A : Around_ z y n) {i j : Nat} (h : i ≤ j) (hj : j ≤ z.length) : cutS y (some ((n + i : Nat) : Int)) (some ((n + j : Nat) : Int)) = cutS z (some (i : Int)) (some (j : Int)) := by
  have hl := A.len
  have hz : z.length = (tl z).length := str_len z
  refine str_ext ?_
  rw [cutS_nat y (by omega) (by omega), cutS_nat z (by omega) hj]
  show List.take (n + j - (n + i)) (List.drop (n + i) (tl y)) = List.take (j - i) (List.drop i (tl z))
  rw [A.eq, List.append_assoc, List.drop_append, List.drop_of_length_le (by simp), List.nil_append, List.length_replicate, Nat.add_sub_cancel_left, List.drop_append_of_le_length (by omega), List.take_append_of_le_length (by rw [List.length_drop]; omega), show n + j - (n + i) = j - i by omega]
theorem Around_.go (A : Around_ z y n) : ∀ {k i : Nat} {acc : List Str}, k = z.length - i → i ≤ z.length → from_ y (n + i) acc = from_ z i acc := by
  have hz : z.length = (tl z).length := str_len z
  have hl := A.len
  intro k
  induction k using Nat.strongRecOn with
  | _ k ih =>
    intro i acc hk hi
    by_cases hlt : i < (tl z).length
    · have e := List.getElem?_eq_getElem hlt
      have g := A.at hlt
      rw [e] at g
      rw [from_step g, from_step e, A.word hlt]
      have w1 := wordEnd_ge z i (tl z)[i]
      have w2 := wordEnd_le e
      split
      · rw [Nat.add_assoc]
        exact ih _ (by omega) rfl (by omega)
      · by_cases h2 : wordEnd z i (tl z)[i] = i
        · rw [if_pos (by omega), if_pos h2]
        · rw [if_neg (by omega), if_neg h2, A.cut w1 w2]
          exact ih _ (by omega) rfl (by omega)
    · have e : i = (tl z).length := by omega
      rw [from_step (A.behind (.inl e)), if_pos rfl, Nat.add_assoc, from_step (A.behind (.inr (by omega))), if_pos rfl, from_out (by omega), from_out (by omega)]
theorem Around_.words (A : Around_ z y n) : wordsOf y = wordsOf z := by
  have hl := A.len
  have h : ∀ m, m ≤ n → from_ y m [] = from_ y 0 [] := fun m => by
    induction m with
    | zero => intro _; rfl
    | succ m ih =>
      intro hm
      rw [← ih (by omega), from_step (i := m) (A.ahead (by omega)), if_pos rfl]
  unfold wordsOf
  rw [← h n (Nat.le_refl _)]
  exact A.go (i := 0) rfl (Nat.zero_le _)
end
theorem around_mk (z : Str) (k : Int) : Around_ z (repS (" " : Str) k ++ z ++ ("  " : Str)) k.toNat := by
  refine ⟨?_⟩
  show ((repS (" " : Str) k ++ z ++ ("  " : Str)) : Str).cps.toList = _
  rw [app_tl, app_tl]
  have e1 : (repS (" " : Str) k).cps.toList = List.replicate k.toNat 32 := by
    unfold repS
    have e : ((" " : Str)).cps.toList = [32] := by decide +kernel
    rw [e]
    simp
  have e2 : (("  " : Str)).cps.toList = [32, 32] := by decide +kernel
  rw [e1, e2]
end K01
namespace K01
open PySem PySem.Spec PyProof.Rows L2 Wy

section
variable {P : Program} {w : World} {K : PySem.W.Frag} {mg : Str → Option Value} {base : Heap}
theorem k_law_take (T : Tx K mg) : C8.Cal P w K mg base 1 "_law_take" spTake [] := by
  refine cal_of (N := n_law_take) T.d_law_take sc_law_take (fun _ _ F => F.bindsN fun _ _ _ _ _ _ us hl => match us, hl with | [_, _], _ => rfl) (fun vs H Q E h => ?_) (fun f cdv A outer s H vs Q E hr h => ?_)
  · obtain ⟨a, d, m, rfl, _⟩ := h
    rfl
  · obtain ⟨a, d, m, rfl, hh, hm, q⟩ := h
    have nd := hh.ne
    obtain ⟨n, ds, h1, h2, h3⟩ := hh
    refine ⟨_, (pss_cons (ps_asg (pe_ix (ix_seq : IxR _ (rIx K)) (pv 0) pe_int (fun _ _ => rfl)) (pg_name (i := 2) sc_law_take.nd rfl (Or.inl rfl))) (pss_cons (ps_asg (pe_op op_add3 (pv 2) pe_int) (pg_sub (pv 0) pe_int set_list)) (pss_cons (ps_asg (pe_ix (ix_seq : IxR _ (rIx K)) (pv 0) pe_int (fun _ _ => rfl)) (pg_name (i := 3) sc_law_take.nd rfl (Or.inl rfl))) (pss_cons (ps_if (pt_cmpR op_ge (pv 2) (pe_callB (call_len2 : CallR _ _ (rLn K)) (by rfl) T.z_len (by decide +kernel) (pa_cons (pv 3) pa_nil)) (nomark _)) (pss_one (ps_ret pe_int)) pss_nil) (pss_one (ps_ret (pe_op op_mod (pe_op op_fdiv (pe_callTy call_int2 (by rfl) T.z_int (by decide +kernel) (pa_cons (pe_ix (ix_seq : IxR _ (rIx K)) (pv 3) (pv 2) (fun _ _ => rfl)) pa_nil)) pe_int) (pv 1)))))))), ?_⟩
    walk_at "ss"
    refine o_ixL (lst_of h1) (atI_nat (j := 1) rfl) ?_
    walk_at "ss"
    refine st_L h1 (j := 1) rfl fun H2 c2 e2 => ?_
    have h3' := c2.at h3 nd
    walk_at "ss"
    refine o_ixL (lst_of e2) (atI_nat (j := 0) rfl) ?_
    walk_at "ss"
    refine b_lenL (lst_of h3') ?_
    walk_at "ss"
    refine ite2 (fun e => ?_) (fun e => ?_)
    · walk_at "ss"
      exact q 0 H2 (Int.le_refl 0) hm c2 ⟨n + 1, ds, e2, by omega, h3'⟩
    · have e := of_decide_eq_false (Bool.eq_false_iff.mpr e)
      rw [List.length_map] at e
      have g : (ds.map V.int)[n.toNat]? = some (.int ds[n.toNat]) := by
        rw [List.getElem?_map, List.getElem?_eq_getElem (by omega)]
        rfl
      walk_at "ss"
      refine o_ixL (lst_of h3') (atI_of (j := n.toNat) (by omega) g) ?_
      walk_at "ss"
      exact q _ H2 (Int.emod_nonneg _ (by omega)) (Int.emod_lt_of_pos _ hm) c2 ⟨n + 1, ds, e2, by omega, h3'⟩
def spDraws (K : PySem.W.Frag) : Sp := fun vs H Q _ => ∃ (a : Addr) (ns : List Int) (m : Int), vs = [.ref a, .int m] ∧ SqL K H a (ns.map V.int) ∧ ns.length ≤ 63 ∧ 0 ≤ m ∧ m ≤ 10000 ∧ ∀ p H' ds, Same H H' → H p = none → H' p = some (.lst ((ds : List Int).map V.int)) → Q (.ref p) H'
theorem k_law_draws (T : Tx K mg) : C8.Cal P w K mg base 1 "_law_draws" (spDraws K) [] := by
  refine cal_of (N := n_law_draws) T.d_law_draws sc_law_draws (fun _ _ F => F.bindsN fun _ _ _ _ _ _ us hl => match us, hl with | [_, _], _ => rfl) (fun vs H Q E h => ?_) (fun f cdv A outer s H vs Q E hr h => ?_)
  · obtain ⟨a, ns, m, rfl, _⟩ := h
    rfl
  · obtain ⟨a, ns, m, rfl, hS, hl, h0, hm, q⟩ := h
    refine ⟨_, (pss_cons (ps_setLc (i := 3) (own := [("cell", 2)]) (g := gName 2) (by rfl) sc_law_draws.nd rfl rfl (sw_true rfl rfl rfl (by decide +kernel)) (pi_list (pv 0) : PI _ _ _ (iList K _)) (blkOk_by (own := [("cell", 2)]) (N := n_law_draws) (sc := defScope s_law_draws) (by decide +kernel)) (fun _ _ _ _ _ => pg_name (i := 2) sc_law_draws.nd rfl (Or.inl rfl)) (fun _ _ _ _ _ => pts_nil) (fun _ _ _ _ _ => (pe_callB call_abs2 (by rfl) T.z_abs (by decide +kernel) (pa_cons (pe_callTy call_int2 (by rfl) T.z_int (by decide +kernel) (pa_cons (pv 2) pa_nil)) pa_nil)))) (pss_cons (ps_asg (pe_lst pa_nil) (pg_name (i := 4) sc_law_draws.nd rfl (Or.inl rfl))) (pss_cons (ps_for PassesOwn.never rfl (pi_range1 (by rfl) T.z_range (pa_cons (pv 1) pa_nil)) (pg_name (i := 5) sc_law_draws.nd rfl (Or.inl rfl)) (pss_cons (ps_asg (pv 5) (pg_name (i := 2) sc_law_draws.nd rfl (Or.inl rfl))) (C8.pss_cut (ps_if (pt_cmpR op_gt (pe_callB (call_len2 : CallR _ _ (rLn K)) (by rfl) T.z_len (by decide +kernel) (pa_cons (pv 0) pa_nil)) pe_int (nomark _)) (pss_cons (ps_asg (pe_op op_mod (pv 5) (pe_callB (call_len2 : CallR _ _ (rLn K)) (by rfl) T.z_len (by decide +kernel) (pa_cons (pv 0) pa_nil))) (pg_name (i := 6) sc_law_draws.nd rfl (Or.inl rfl))) (pss_cons (ps_asg (pe_callTy call_int2 (by rfl) T.z_int (by decide +kernel) (pa_cons (pe_ix (ix_seq : IxR _ (rIx K)) (pv 0) (pv 6) (fun _ _ => rfl)) pa_nil)) (pg_name (i := 2) sc_law_draws.nd rfl (Or.inl rfl))) (pss_one (ps_if (PW.pt (pw_and (pt_cmpR op_ge (pv 2) (pe_op op_pow pe_int pe_int) (nomark _)) (pw_and1 (pt_cmpR op_gt (pe_ix (ix_seq : IxR _ (rIx K)) (pv 3) (pv 6) (fun _ _ => rfl)) pe_int (nomark _))))) (pss_cons (ps_expr (pe_bm PySem.F.plainAttrs_list PySem.F.slot_list_append PySem.F.type_list_append mt_append (pv 4) (pa_cons (pe_op op_mod (pe_callTy call_int2 (by rfl) T.z_int (by decide +kernel) (pa_cons (pe_ix (ix_seq : IxR _ (rIx K)) (pv 3) (pv 6) (fun _ _ => rfl)) pa_nil)) pe_int) pa_nil) : PE _ _ (tBM K _ _ _ _))) (pss_cons (ps_asg (pe_op op_fdiv (pe_callTy call_int2 (by rfl) T.z_int (by decide +kernel) (pa_cons (pe_ix (ix_seq : IxR _ (rIx K)) (pv 3) (pv 6) (fun _ _ => rfl)) pa_nil)) pe_int) (pg_sub (pv 3) (pv 6) set_list)) (pss_one ps_continue))) pss_nil)))) pss_nil) (pss_cons (ps_asg (pe_op op_mod (pe_callTy call_int2 (by rfl) T.z_int (by decide +kernel) (pa_cons (pe_op op_add3 (pe_op op_add3 (pe_op op_mul2 (pv 2) pe_int) (pe_op op_mul2 (pv 5) pe_int)) pe_int) pa_nil)) pe_int) (pg_name (i := 7) sc_law_draws.nd rfl (Or.inl rfl))) (pss_cons (ps_asg (pe_op op_mod (pe_callTy call_int2 (by rfl) T.z_int (by decide +kernel) (pa_cons (pe_op op_add3 (pe_op op_fdiv (pe_op op_mul2 (pv 7) (pv 7)) pe_int) (pv 7)) pa_nil)) pe_int) (pg_name (i := 7) sc_law_draws.nd rfl (Or.inl rfl))) (pss_one (ps_expr (pe_bm PySem.F.plainAttrs_list PySem.F.slot_list_append PySem.F.type_list_append mt_append (pv 4) (pa_cons (pe_op op_mod (pe_callTy call_int2 (by rfl) T.z_int (by decide +kernel) (pa_cons (pe_op op_add3 (pe_op op_fdiv (pe_op op_mul2 (pv 7) (pv 7)) pe_int) (pe_op op_mul2 (pv 5) pe_int)) pa_nil)) pe_int) pa_nil) : PE _ _ (tBM K _ _ _ _))))))))) (pss_one (ps_ret (pv 4)))))), ?_⟩
    walk_at "ss"
    refine k_l hS ?_
    refine c_list (xs := ns.map V.int) (fun D i H1 => Same H H1 ∧ ∃ rs : List Int, rs.length = i ∧ H1 D = some (.lst (rs.map V.int))) (fun D H1 nD s1 e1 => ⟨s1, [], rfl, e1⟩) (fun D i H1 hi nD p => p.1.seq hS) (fun D i x H1 hx nD p => ?_) (fun D H1 nD p => ?_)
    · obtain ⟨s1, rs, lr, er⟩ := p
      have hi := (List.getElem?_eq_some_iff.mp hx).1
      rw [List.length_map] at hi
      obtain ⟨z, rfl⟩ : ∃ z, x = V.int z := by
        rw [List.getElem?_map] at hx
        cases e : ns[i]? with
        | none =>
          rw [e] at hx
          cases hx
        | some z =>
          rw [e] at hx
          exact ⟨z, (Option.some.inj hx).symm⟩
      walk_at "ss"
      refine ⟨rfl, ?_⟩
      walk_at "ss"
      refine iteT ?_
      walk_at "ss"
      exact c_out er (by rw [List.length_map, lr]; exact small1000 (by omega)) fun H2 c2 e2 => ⟨c2.same s1 nD, rs ++ [if z < 0 then -z else z], by simp [lr], by rw [List.map_append]; exact e2⟩
    · obtain ⟨s1, rs, lr, er⟩ := p
      rw [List.length_map] at lr
      walk_at "ss"
      refine n_obj (Nat.zero_le _) fun d H2 nd s2 e2 => ?_
      have nrd : D ≠ d := ne_of_none er nd
      have nd0 : H d = none := s1.free nd
      walk_at "ss"
      refine k_r1 (by omega) (by omega) ?_
      refine f_range (fun i σ H' => ∃ c k t x, ∃ ds rs : List Int, σ = [some (.ref a), some (.int m), c, some (.ref D), some (.ref d), k, t, x] ∧ Same H H' ∧ H' D = some (.lst (rs.map V.int)) ∧ rs.length = ns.length ∧ H' d = some (.lst (ds.map V.int)) ∧ ds.length ≤ i)
        ⟨_, _, _, _, [], rs, rfl, s1.trans s2, s2 _ _ er, lr, e2, Nat.le_refl _⟩ (fun i σ H3 hi p => ?_) (fun σ H3 p => ?_)
      · obtain ⟨c, k, t, x, ds, rs, rfl, s3, e3, l3, f3, g3⟩ := p
        have sz : (ds.map V.int).length < sizeLine := small1000' (by rw [List.length_map]; omega)
        walk_at "ss"
        refine s_cut (fun σ H' => ∃ (c : Int) (t x : Option V) (rs : List Int), σ = [some (.ref a), some (.int m), some (.int c), some (.ref D), some (.ref d), some (.int (0 + (i : Int))), t, x] ∧ Same H H' ∧ H' D = some (.lst (rs.map V.int)) ∧ rs.length = ns.length ∧ H' d = some (.lst (ds.map V.int))) ?_ (fun σ H4 p => ?_)
        · walk_at "ss"
          refine b_lenL (s3.seq hS) ?_
          walk_at "ss"
          refine ite2 (fun e => ?_) (fun e => ?_)
          · have e := of_decide_eq_true e
            rw [List.length_map] at e
            walk_at "ss"
            refine b_lenL (s3.seq hS) ?_
            rw [List.length_map]
            refine o_mod e ?_
            walk_at "ss"
            have b1 : 0 ≤ (0 + (i : Int)) % (ns.length : Int) := Int.emod_nonneg _ (by omega)
            have b2 : (0 + (i : Int)) % (ns.length : Int) < (ns.length : Int) := Int.emod_lt_of_pos _ e
            obtain ⟨j, hj⟩ : ∃ j : Nat, (0 + (i : Int)) % (ns.length : Int) = (j : Int) := ⟨_, (Int.toNat_of_nonneg b1).symm⟩
            rw [hj]
            have hj1 : j < ns.length := by omega
            have hj2 : j < rs.length := by omega
            have g1 : (ns.map V.int)[j]? = some (.int ns[j]) := by
              rw [List.getElem?_map, List.getElem?_eq_getElem hj1]
              rfl
            have g2 : (rs.map V.int)[j]? = some (.int rs[j]) := by
              rw [List.getElem?_map, List.getElem?_eq_getElem hj2]
              rfl
            refine o_ixL (s3.seq hS) (atI_nat g1) ?_
            walk_at "ss"
            refine ite2 (fun e => ?_) (fun e => ?_)
            · walk_at "ss"
              refine o_ixL (lst_of e3) (atI_nat g2) ?_
              walk_at "ss"
              refine ite2 (fun e => ?_) (fun e => ?_)
              · walk_at "ss"
                refine m_ty (lst_of f3) ?_
                walk_at "ss"
                refine o_ixL (lst_of e3) (atI_nat g2) ?_
                walk_at "ss"
                refine m_app f3 sz fun H4 c4 f4 => ?_
                have e4 := c4.at e3 nrd
                have s4 := c4.same s3 nd0
                walk_at "ss"
                refine o_ixL (lst_of e4) (atI_nat g2) ?_
                walk_at "ss"
                refine st_L e4 (j := j) (ixN_nat (by rw [List.length_map]; exact hj2)) fun H5 c5 e5 => ?_
                have f5 := c5.at f4 nrd.symm
                have s5 := c5.same s4 nD
                walk_at "ss"
                refine ⟨_, _, _, _, ds ++ [rs[j] % 1000003], rs.set j (rs[j] / 1000003), rfl, s5, ?_, by rw [List.length_set]; exact l3, ?_, by rw [List.length_append]; exact Nat.succ_le_succ g3⟩
                · rw [e5, List.map_set]
                · rw [f5, List.map_append]
                  rfl
              · walk_at "ss"
                exact ⟨_, _, _, rs, rfl, s3, e3, l3, f3⟩
            · walk_at "ss"
              refine iteF ?_
              walk_at "ss"
              exact ⟨_, _, _, rs, rfl, s3, e3, l3, f3⟩
          · walk_at "ss"
            exact ⟨_, _, _, rs, rfl, s3, e3, l3, f3⟩
        · obtain ⟨c, t, x, rs, rfl, s3, e3, l3, f3⟩ := p
          walk_at "ss"
          refine m_ty (lst_of f3) ?_
          walk_at "ss"
          refine m_app f3 sz fun H5 c5 f5 => ?_
          obtain ⟨ds', f6, l6⟩ := snoc_int f5
          exact ⟨_, _, _, _, ds', rs, rfl, c5.same s3 nd0, c5.at e3 nrd, l3, f6, by omega⟩
      · obtain ⟨c, k, t, x, ds, rs, rfl, s3, e3, l3, f3, g3⟩ := p
        walk_at "ss"
        exact q d H3 ds s3 nd0 f3
end
end K01
namespace K01
open PySem PySem.Spec PyProof.Rows L2 Wy

section
variable {P : Program} {w : World} {K : PySem.W.Frag} {mg : Str → Option Value} {base : Heap}
/-! ### the program -/
def spRunEnd : Sp := fun vs H Q _ => ∃ (z p : Str) (i : Nat), vs = [.str z, .int i, .str p] ∧ z.length ≤ 1000000 ∧ i ≤ z.length ∧ Q (.int (runEnd (tl z) (tl p) i : Nat)) H
theorem k_run_end (T : Tx K mg) : C8.Cal P w K mg base 1 "_run_end" spRunEnd [] := by
  refine cal_of (N := n_run_end) T.d_run_end sc_run_end (fun _ _ F => F.bindsN fun _ _ _ _ _ _ us hl => match us, hl with | [_, _, _], _ => rfl) (fun vs H Q E h => ?_) (fun f cdv A outer s H vs Q E hr h => ?_)
  · obtain ⟨z, p, i, rfl, _⟩ := h
    rfl
  · obtain ⟨z, p, i, rfl, hz, hi, q⟩ := h
    have hz2 : z.length ≤ sizeLine := Nat.le_of_lt (Nat.lt_of_le_of_lt hz (by decide))
    refine ⟨_, (pss_cons (ps_while PassesOwn.never (PW.pt (pw_and (pt_cmpR op_lt (pv 1) (pe_callB (call_len2 : CallR _ _ (rLn K)) (by rfl) T.z_len (by decide +kernel) (pa_cons (pv 0) pa_nil)) (nomark _)) (pw_and1 (pt_cmpR (op_in2 : OpR _ _ (rIn2 K)) (pe_ix (ix_seq : IxR _ (rIx K)) (pv 0) (pv 1) (fun _ _ => rfl)) (pv 2) (by rfl))))) (pss_one (ps_aug (i := 1) sc_run_end.nd rfl (Or.inl rfl) pe_int ip_add))) (pss_one (ps_ret (pv 1)))), ?_⟩
    walk_at "ss"
    refine s_while (fun m σ H' => H' = H ∧ ∃ j : Nat, m = z.length - j ∧ j ≤ z.length ∧ runEnd (tl z) (tl p) j = runEnd (tl z) (tl p) i ∧ σ = [some (.str z), some (.int j), some (.str p)]) (z.length - i) ⟨rfl, i, rfl, hi, rfl, rfl⟩ fun m σ H' hW => ?_
    obtain ⟨rfl, j, rfl, hj, er, rfl⟩ := hW
    walk_at "ss"
    refine b_lenS hz2 ?_
    walk_at "ss"
    refine ite2 (fun e => ?_) (fun e => ?_)
    · have e := of_decide_eq_true e
      obtain ⟨c, g1, g2⟩ := atI_cps (z := z) (i := j) (by omega)
      walk_at "ss"
      refine o_ixS hz2 g2 ?_
      walk_at "ss"
      refine ite2 (fun e2 => ?_) (fun e2 => ?_)
      · have e2 := of_decide_eq_true e2
        refine k_while ?_
        walk_at "ss"
        exact ⟨_, by omega, rfl, j + 1, rfl, by omega, by rw [← er]; exact (runEnd_yes g1 e2).symm, rfl⟩
      · have e2 := of_decide_eq_false (Bool.eq_false_iff.mpr e2)
        walk_at "ss"
        rw [← er, runEnd_no g1 e2] at q
        exact q
    · have e := of_decide_eq_false (Bool.eq_false_iff.mpr e)
      refine iteF ?_
      walk_at "ss"
      rw [← er, runEnd_out (by rw [← str_len]; omega)] at q
      exact q
def spWordEnd : Sp := fun vs H Q _ => ∃ (z : Str) (i c : Nat), vs = [.str z, .int i] ∧ z.length ≤ 1000000 ∧ (tl z)[i]? = some c ∧ Q (.int (wordEnd z i c : Nat)) H
theorem k_word_end (T : Tx K mg) : C8.Cal P w K mg base 2 "_word_end" spWordEnd [] := by
  refine cal_of (N := n_word_end) T.d_word_end sc_word_end (fun _ _ F => F.bindsN fun _ _ _ _ _ _ us hl => match us, hl with | [_, _], _ => rfl) (fun vs H Q E h => ?_) (fun f cdv A outer s H vs Q E hr h => ?_)
  · obtain ⟨z, i, c, rfl, _⟩ := h
    rfl
  · obtain ⟨z, i, c, rfl, hz, g1, q⟩ := h
    have hz2 : z.length ≤ sizeLine := Nat.le_of_lt (Nat.lt_of_le_of_lt hz (by decide))
    have hi : i < z.length := by
      rw [str_len]
      exact (List.getElem?_eq_some_iff.mp g1).1
    have g2 : atI z.cps.toList (i : Int) = some c := atI_nat g1
    unfold wordEnd at q
    refine ⟨_, (pss_cons (ps_if (pt_cmpR (op_in2 : OpR _ _ (rIn2 K)) (pe_ix (ix_seq : IxR _ (rIx K)) (pv 0) (pv 1) (fun _ _ => rfl)) (C8.pe_gc (by rfl) T.g_LETTERS) (by rfl)) (pss_one (ps_ret (C8.pe_c (k_run_end T) hr (by first | decide | omega) (by rfl) (pa_cons (pv 0) (pa_cons (pv 1) (pa_cons (C8.pe_gc (by rfl) T.g_LETTERS) pa_nil)))))) pss_nil) (pss_cons (ps_if (pt_cmpR (op_in2 : OpR _ _ (rIn2 K)) (pe_ix (ix_seq : IxR _ (rIx K)) (pv 0) (pv 1) (fun _ _ => rfl)) (C8.pe_gc (by rfl) T.g_DIGITS) (by rfl)) (pss_one (ps_ret (C8.pe_c (k_run_end T) hr (by first | decide | omega) (by rfl) (pa_cons (pv 0) (pa_cons (pv 1) (pa_cons (C8.pe_gc (by rfl) T.g_DIGITS) pa_nil)))))) pss_nil) (pss_cons (ps_if (pt_cmpR (op_in2 : OpR _ _ (rIn2 K)) (pe_slice (sl_2 : SlR _ (rSl2 K)) (pv 0) (po_some (pv 1)) (po_some (pe_op op_add3 (pv 1) pe_int))) (C8.pe_gc (by rfl) T.g_LONG_SIGNS) (by rfl)) (pss_one (ps_ret (pe_op op_add3 (pv 1) pe_int))) pss_nil) (pss_cons (ps_if (pt_cmpR (op_in2 : OpR _ _ (rIn2 K)) (pe_ix (ix_seq : IxR _ (rIx K)) (pv 0) (pv 1) (fun _ _ => rfl)) (C8.pe_gc (by rfl) T.g_SHORT_SIGNS) (by rfl)) (pss_one (ps_ret (pe_op op_add3 (pv 1) pe_int))) pss_nil) (pss_one (ps_ret (pv 1))))))), ?_⟩
    walk_at "ss"
    refine o_ixS hz2 g2 ?_
    walk_at "ss"
    refine ite2 (fun e => ?_) (fun e => ?_)
    · have e := of_decide_eq_true e
      rw [if_pos e] at q
      walk_at "ss"
      exact ⟨z, LET, i, rfl, hz, Nat.le_of_lt hi, q⟩
    · have e := of_decide_eq_false (Bool.eq_false_iff.mpr e)
      rw [if_neg e] at q
      walk_at "ss"
      refine o_ixS hz2 g2 ?_
      walk_at "ss"
      refine ite2 (fun e => ?_) (fun e => ?_)
      · have e := of_decide_eq_true e
        rw [if_pos e] at q
        walk_at "ss"
        exact ⟨z, DIG, i, rfl, hz, Nat.le_of_lt hi, q⟩
      · have e := of_decide_eq_false (Bool.eq_false_iff.mpr e)
        rw [if_neg e] at q
        walk_at "ss"
        refine l_S hz2 ?_
        walk_at "ss"
        refine o_inT (T.t_LONG_SIGNS _) rfl (by decide +kernel) ?_
        walk_at "ss"
        refine ite2 (fun e => ?_) (fun e => ?_)
        · have e : pairAt z i = true := e
          rw [if_pos e] at q
          walk_at "ss"
          exact q
        · have e : ¬ pairAt z i = true := e
          rw [if_neg e] at q
          walk_at "ss"
          refine o_ixS hz2 g2 ?_
          walk_at "ss"
          refine ite2 (fun e => ?_) (fun e => ?_)
          · have e := of_decide_eq_true e
            rw [if_pos e] at q
            walk_at "ss"
            exact q
          · have e := of_decide_eq_false (Bool.eq_false_iff.mpr e)
            rw [if_neg e] at q
            walk_at "ss"
            exact q
/-- what a list of words, or None, looks like -/
def WordsV (H : Hp) (v : V) (o : Option (List Str)) : Prop := match o with
  | none => v = .non
  | some ws => ∃ p, v = .ref p ∧ H p = some (.lst (ws.map V.str))
/-- what a new list of words, or None, looks like -/
def NewWords (H0 H : Hp) (v : V) (o : Option (List Str)) : Prop := match o with
  | none => v = .non
  | some ws => ∃ p, v = .ref p ∧ H0 p = none ∧ H p = some (.lst (ws.map V.str))
def spSplit : Sp := fun vs H Q _ => ∃ (z : Str), vs = [.str z] ∧ z.length ≤ 1000000 ∧ ∀ v H', Same H H' → NewWords H H' v (wordsOf z) → Q v H'
theorem k_split_row (T : Tx K mg) : C8.Cal P w K mg base 3 "split_row" spSplit [] := by
  refine cal_of (N := n_split_row) T.d_split_row sc_split_row (fun _ _ F => F.bindsN fun _ _ _ _ _ _ us hl => match us, hl with | [_], _ => rfl) (fun vs H Q E h => ?_) (fun f cdv A outer s H vs Q E hr h => ?_)
  · obtain ⟨z, rfl, _⟩ := h
    rfl
  · obtain ⟨z, rfl, hz, q⟩ := h
    have hz2 : z.length ≤ sizeLine := Nat.le_of_lt (Nat.lt_of_le_of_lt hz (by decide))
    refine ⟨_, (pss_cons (ps_asg (pe_lst pa_nil) (pg_name (i := 1) sc_split_row.nd rfl (Or.inl rfl))) (pss_cons (ps_asg pe_int (pg_name (i := 2) sc_split_row.nd rfl (Or.inl rfl))) (pss_cons (ps_while PassesOwn.never (pt_cmpR op_lt (pv 2) (pe_callB (call_len2 : CallR _ _ (rLn K)) (by rfl) T.z_len (by decide +kernel) (pa_cons (pv 0) pa_nil)) (nomark _)) (pss_cons (ps_if (pt_cmpR (op_eq2 hr.units : OpR _ _ (rEq2 K)) (pe_ix (ix_seq : IxR _ (rIx K)) (pv 0) (pv 2) (fun _ _ => rfl)) pe_str (nomark _)) (pss_cons (ps_aug (i := 2) sc_split_row.nd rfl (Or.inl rfl) pe_int ip_add) (pss_one ps_continue)) pss_nil) (pss_cons (ps_asg (C8.pe_c (k_word_end T) hr (by first | decide | omega) (by rfl) (pa_cons (pv 0) (pa_cons (pv 2) pa_nil))) (pg_name (i := 3) sc_split_row.nd rfl (Or.inl rfl))) (pss_cons (ps_if (pt_cmpR (op_eq2 hr.units : OpR _ _ (rEq2 K)) (pv 3) (pv 2) (nomark _)) (pss_one (ps_ret pe_non)) pss_nil) (pss_cons (ps_expr (pe_bm PySem.F.plainAttrs_list PySem.F.slot_list_append PySem.F.type_list_append mt_append (pv 1) (pa_cons (pe_slice (sl_2 : SlR _ (rSl2 K)) (pv 0) (po_some (pv 2)) (po_some (pv 3))) pa_nil) : PE _ _ (tBM K _ _ _ _))) (pss_one (ps_asg (pv 3) (pg_name (i := 2) sc_split_row.nd rfl (Or.inl rfl))))))))) (pss_one (ps_ret (pv 1)))))), ?_⟩
    walk_at "ss"
    refine n_obj (Nat.zero_le _) fun p H1 np s1 e1 => ?_
    walk_at "ss"
    refine s_while (fun m σ H' => Same H H' ∧ ∃ (j : Nat) (acc : List Str) (x : Option V), m = z.length - j ∧ j ≤ z.length ∧ acc.length ≤ j ∧ from_ z j acc = wordsOf z ∧ H' p = some (.lst (acc.map V.str)) ∧ σ = [some (.str z), some (.ref p), some (.int j), x]) z.length
      ⟨s1, 0, [], none, rfl, Nat.zero_le _, Nat.le_refl _, rfl, e1, rfl⟩ fun m σ H2 hW => ?_
    obtain ⟨s2, j, acc, x, rfl, hj, ha, er, e2, rfl⟩ := hW
    walk_at "ss"
    refine b_lenS hz2 ?_
    walk_at "ss"
    refine ite2 (fun e => ?_) (fun e => ?_)
    · have e := of_decide_eq_true e
      have hj1 : j < z.length := by omega
      obtain ⟨c, g1, g2⟩ := atI_cps (z := z) (i := j) hj1
      have st := from_step (acc := acc) g1
      rw [er] at st
      refine k_while ?_
      walk_at "ss"
      refine o_ixS hz2 g2 ?_
      walk_at "ss"
      refine o_eqS rfl ?_
      walk_at "ss"
      refine ite2 (fun e => ?_) (fun e => ?_)
      · have ec : c = 32 := (sign_eq (y := (" " : Str)) (by decide +kernel)).mp e
        rw [if_pos ec] at st
        walk_at "ss"
        exact ⟨_, by omega, s2, j + 1, acc, x, rfl, by omega, by omega, st.symm, e2, rfl⟩
      · have ec : ¬ c = 32 := fun z => e ((sign_eq (y := (" " : Str)) (by decide +kernel)).mpr z)
        rw [if_neg ec] at st
        walk_at "ss"
        refine ⟨z, j, c, rfl, hz, g1, ?_⟩
        walk_at "ss"
        refine o_eqS rfl ?_
        walk_at "ss"
        refine ite2 (fun e => ?_) (fun e => ?_)
        · have e := V.int.inj (of_decide_eq_true e)
          rw [if_pos (by omega)] at st
          walk_at "ss"
          refine q _ _ s2 ?_
          rw [st]
          rfl
        · have e : ¬ ((wordEnd z j c : Nat) : Int) = (j : Int) := fun z => e (by rw [z]; exact decide_eq_true rfl)
          rw [if_neg (by omega)] at st
          walk_at "ss"
          refine m_ty (lst_of e2) ?_
          walk_at "ss"
          refine l_S hz2 ?_
          walk_at "ss"
          refine m_app e2 (by rw [List.length_map]; exact Nat.lt_of_le_of_lt (Nat.le_trans ha hj) (Nat.lt_of_le_of_lt hz (by decide))) fun H3 c3 e3 => ?_
          have g3 := wordEnd_ge z j c
          have g4 := wordEnd_le g1
          walk_at "ss"
          refine ⟨_, ?_, c3.same s2 np, wordEnd z j c, acc ++ [_], _, rfl, g4, ?_, st.symm, ?_, rfl⟩
          · omega
          · rw [List.length_append]
            show acc.length + 1 ≤ _
            omega
          · rw [List.map_append]
            exact e3
    · have e := of_decide_eq_false (Bool.eq_false_iff.mpr e)
      walk_at "ss"
      refine q _ _ s2 ?_
      rw [← er, from_out (by omega)]
      exact ⟨p, rfl, np, e2⟩
end
end K01
namespace K01
open PySem PySem.Spec PyProof.Rows L2 Wy

section
variable {P : Program} {w : World} {K : PySem.W.Frag} {mg : Str → Option Value} {base : Heap}
def spNameW : Sp := fun vs H Q _ => ∃ (z : Str), vs = [.str z] ∧ z.length ≤ 1000000 ∧ ∀ H', Same H H' → Q (.bl (nameW z)) H'
def spNumW : Sp := fun vs H Q _ => ∃ (z : Str), vs = [.str z] ∧ z.length ≤ 1000000 ∧ ∀ H', Same H H' → Q (.bl (numberW z)) H'
theorem k_is_name (T : Tx K mg) : C8.Cal P w K mg base 2 "is_name" spNameW [] := by
  refine cal_of (N := n_is_name) T.d_is_name sc_is_name (fun _ _ F => F.bindsN fun _ _ _ _ _ _ us hl => match us, hl with | [_], _ => rfl) (fun vs H Q E h => ?_) (fun f cdv A outer s H vs Q E hr h => ?_)
  · obtain ⟨z, rfl, _⟩ := h
    rfl
  · obtain ⟨z, rfl, hz, q⟩ := h
    have hz2 : z.length ≤ sizeLine := Nat.le_of_lt (Nat.lt_of_le_of_lt hz (by decide))
    refine ⟨_, (pss_cons (ps_if (PW.pt (pw_or (pt_not (pt_chain op_le op_le pe_int (pe_callB (call_len2 : CallR _ _ (rLn K)) (by rfl) T.z_len (by decide +kernel) (pa_cons (pv 0) pa_nil)) (C8.pe_gc (by rfl) T.g_MOST_LETTERS))) (pw_or1 (pt_cmpR (op_in2 : OpR _ _ (rIn2 K)) (pv 0) (C8.pe_gc (by rfl) T.g_RESERVED) (by rfl))))) (pss_one (ps_ret pe_bl)) pss_nil) (pss_one (ps_ret (pe_cmpR (op_eq2 hr.units : OpR _ _ (rEq2 K)) (C8.pe_c (k_run_end T) hr (by first | decide | omega) (by rfl) (pa_cons (pv 0) (pa_cons pe_int (pa_cons (C8.pe_gc (by rfl) T.g_LETTERS) pa_nil)))) (pe_callB (call_len2 : CallR _ _ (rLn K)) (by rfl) T.z_len (by decide +kernel) (pa_cons (pv 0) pa_nil)) (nomark _))))), ?_⟩
    unfold nameW at q
    walk_at "ss"
    refine b_lenS hz2 ?_
    walk_at "ss"
    refine ite2 (fun e => ?_) (fun e => ?_)
    · have e := of_decide_eq_true e
      rw [decide_eq_true (show 1 ≤ z.length by omega)] at q
      walk_at "ss"
      by_cases e2 : (z.length : Int) ≤ 12
      · rw [decide_eq_true e2]
        rw [decide_eq_true (show z.length ≤ 12 by omega)] at q
        refine iteF ?_
        walk_at "ss"
        refine o_inT (T.t_RESERVED _) rfl (by decide +kernel) ?_
        walk_at "ss"
        cases e3 : inV (.str z) c_RESERVED with
        | true =>
          rw [e3] at q
          refine iteT ?_
          walk_at "ss"
          exact q H (Same.refl H)
        | false =>
          rw [e3] at q
          refine iteF ?_
          walk_at "ss"
          refine ⟨z, LET, 0, rfl, hz, Nat.zero_le _, ?_⟩
          walk_at "ss"
          refine b_lenS hz2 ?_
          refine o_eqS rfl ?_
          walk_at "ss"
          have e4 : decide (V.int ((runEnd (tl z) (tl LET) 0 : Nat) : Int) = V.int (z.length : Int)) = decide (∀ c ∈ tl z, c ∈ tl LET) := by
            rw [decide_eq_decide, ← runEnd_all, ← str_len]
            exact ⟨fun e => by have := V.int.inj e; omega, fun e => by rw [e]⟩
          rw [e4]
          exact q H (Same.refl H)
      · rw [decide_eq_false e2]
        rw [decide_eq_false (show ¬ z.length ≤ 12 by omega)] at q
        refine iteT ?_
        refine iteT ?_
        walk_at "ss"
        exact q H (Same.refl H)
    · have e := of_decide_eq_false (Bool.eq_false_iff.mpr e)
      rw [decide_eq_false (show ¬ 1 ≤ z.length by omega)] at q
      walk_at "ss"
      refine iteT ?_
      refine iteT ?_
      walk_at "ss"
      exact q H (Same.refl H)
def spNum10 : Sp := fun vs H Q _ => ∃ (z : Str), vs = [.str z, .int 10] ∧ z.length ≤ 1000000 ∧ ∀ H', Same H H' → Q (.bl (numberW z)) H'
theorem k_is_numeral (T : Tx K mg) : C8.Cal P w K mg base 2 "is_numeral" spNum10 [] := by
  refine cal_of (N := n_is_numeral) T.d_is_numeral sc_is_numeral (fun _ _ F => F.bindsN fun _ _ _ _ _ _ us hl => match us, hl with | [_, _], _ => rfl) (fun vs H Q E h => ?_) (fun f cdv A outer s H vs Q E hr h => ?_)
  · obtain ⟨z, rfl, _⟩ := h
    rfl
  · obtain ⟨z, rfl, hz, q⟩ := h
    have hz2 : z.length ≤ sizeLine := Nat.le_of_lt (Nat.lt_of_le_of_lt hz (by decide))
    refine ⟨_, (pss_cons (ps_if (pt_not (pt_chain op_le op_le pe_int (pe_callB (call_len2 : CallR _ _ (rLn K)) (by rfl) T.z_len (by decide +kernel) (pa_cons (pv 0) pa_nil)) (pv 1))) (pss_one (ps_ret pe_bl)) pss_nil) (pss_cons (ps_if (pt_cmpR (op_eq2 hr.units : OpR _ _ (rEq2 K)) (pe_ix (ix_seq : IxR _ (rIx K)) (pv 0) pe_int (fun _ _ => rfl)) pe_str (nomark _)) (pss_one (ps_ret (pe_cmpR (op_eq2 hr.units : OpR _ _ (rEq2 K)) (pv 0) pe_str (nomark _)))) pss_nil) (pss_one (ps_ret (pe_cmpR (op_eq2 hr.units : OpR _ _ (rEq2 K)) (C8.pe_c (k_run_end T) hr (by first | decide | omega) (by rfl) (pa_cons (pv 0) (pa_cons pe_int (pa_cons (C8.pe_gc (by rfl) T.g_DIGITS) pa_nil)))) (pe_callB (call_len2 : CallR _ _ (rLn K)) (by rfl) T.z_len (by decide +kernel) (pa_cons (pv 0) pa_nil)) (nomark _)))))), ?_⟩
    unfold numberW at q
    walk_at "ss"
    refine b_lenS hz2 ?_
    walk_at "ss"
    refine ite2 (fun e => ?_) (fun e => ?_)
    · have e := of_decide_eq_true e
      rw [decide_eq_true (show 1 ≤ z.length by omega)] at q
      walk_at "ss"
      by_cases e2 : (z.length : Int) ≤ 10
      · rw [decide_eq_true e2]
        rw [decide_eq_true (show z.length ≤ 10 by omega)] at q
        refine iteF ?_
        walk_at "ss"
        obtain ⟨c, g1, g2⟩ := atI_cps (z := z) (i := 0) (by omega)
        refine o_ixS hz2 g2 ?_
        walk_at "ss"
        refine o_eqS rfl ?_
        walk_at "ss"
        refine ite2 (fun e => ?_) (fun e => ?_)
        · have ec : c = 48 := (sign_eq (y := ("0" : Str)) (by decide +kernel)).mp e
          subst ec
          walk_at "ss"
          refine o_eqS rfl ?_
          have e4 : decide (V.str z = V.str ("0" : Str)) = (decide (∀ c ∈ tl z, c ∈ tl DIG) && (decide (z.length = 1) || !decide ((tl z)[0]? = some 48))) := by
            by_cases h1 : z.length = 1
            · have ez : z = ("0" : Str) := str_ext (by
                rw [str_len] at h1
                obtain ⟨x, hx⟩ := List.length_eq_one_iff.mp h1
                rw [hx] at g1 ⊢
                have : x = 48 := by simpa using g1
                rw [this]
                decide +kernel)
              rw [ez]
              decide +kernel
            · rw [decide_eq_false (show ¬ V.str z = V.str ("0" : Str) from fun e => h1 (by rw [V.str.inj e]; decide +kernel)), decide_eq_false h1, g1]
              simp
          rw [e4]
          exact q H (Same.refl H)
        · have ec : ¬ c = 48 := fun z => e ((sign_eq (y := ("0" : Str)) (by decide +kernel)).mpr z)
          walk_at "ss"
          refine ⟨z, DIG, 0, rfl, hz, Nat.zero_le _, ?_⟩
          walk_at "ss"
          refine b_lenS hz2 ?_
          refine o_eqS rfl ?_
          walk_at "ss"
          have e4 : decide (V.int ((runEnd (tl z) (tl DIG) 0 : Nat) : Int) = V.int (z.length : Int)) = decide (∀ c ∈ tl z, c ∈ tl DIG) := by
            rw [decide_eq_decide, ← runEnd_all, ← str_len]
            exact ⟨fun e => by have := V.int.inj e; omega, fun e => by rw [e]⟩
          rw [e4]
          rw [g1, show decide (some c = some 48) = false from decide_eq_false (fun e => ec (Option.some.inj e))] at q
          simpa using q H (Same.refl H)
      · rw [decide_eq_false e2]
        rw [decide_eq_false (show ¬ z.length ≤ 10 by omega)] at q
        refine iteT ?_
        walk_at "ss"
        simpa using q H (Same.refl H)
    · have e := of_decide_eq_false (Bool.eq_false_iff.mpr e)
      rw [decide_eq_false (show ¬ 1 ≤ z.length by omega)] at q
      walk_at "ss"
      refine iteT ?_
      walk_at "ss"
      exact q H (Same.refl H)
theorem k_is_number (T : Tx K mg) : C8.Cal P w K mg base 3 "is_number" spNumW [] := by
  refine cal_of (N := n_is_number) T.d_is_number sc_is_number (fun _ _ F => F.bindsN fun _ _ _ _ _ _ us hl => match us, hl with | [_], _ => rfl) (fun vs H Q E h => ?_) (fun f cdv A outer s H vs Q E hr h => ?_)
  · obtain ⟨z, rfl, _⟩ := h
    rfl
  · obtain ⟨z, rfl, hz, q⟩ := h
    refine ⟨_, (pss_one (ps_ret (C8.pe_c (k_is_numeral T) hr (by first | decide | omega) (by rfl) (pa_cons (pv 0) (pa_cons (C8.pe_gc (by rfl) T.g_MOST_DIGITS) pa_nil))))), ?_⟩
    walk_at "ss"
    exact ⟨z, rfl, hz, q⟩
/-! ### the law's own -/
def spLetters : Sp := fun vs H Q _ => vs = [] ∧ Q (.str LET) H
theorem k_law_letters (T : Tx K mg) : C8.Cal P w K mg base 1 "_law_letters" spLetters [] := by
  refine cal_of (N := n_law_letters) T.d_law_letters sc_law_letters (fun _ _ F => F.bindsN fun _ _ _ _ _ _ us hl => match us, hl with | [], _ => rfl) (fun vs H Q E h => ?_) (fun f cdv A outer s H vs Q E hr h => ?_)
  · rw [h.1]
    rfl
  · obtain ⟨rfl, q⟩ := h
    refine ⟨_, (pss_one (ps_ret pe_str)), ?_⟩
    walk_at "ss"
    exact q
def spReserved : Sp := fun vs H Q _ => vs = [] ∧ ∀ p H', Same H H' → H p = none → H' p = some (.lst c_RESERVED) → Q (.ref p) H'
theorem k_law_reserved (T : Tx K mg) : C8.Cal P w K mg base 1 "_law_reserved" spReserved [] := by
  refine cal_of (N := n_law_reserved) T.d_law_reserved sc_law_reserved (fun _ _ F => F.bindsN fun _ _ _ _ _ _ us hl => match us, hl with | [], _ => rfl) (fun vs H Q E h => ?_) (fun f cdv A outer s H vs Q E hr h => ?_)
  · rw [h.1]
    rfl
  · obtain ⟨rfl, q⟩ := h
    refine ⟨_, (pss_cons (ps_asg (pe_lst (pa_cons pe_str (pa_cons pe_str (pa_cons pe_str (pa_cons pe_str (pa_cons pe_str (pa_cons pe_str (pa_cons pe_str (pa_cons pe_str (pa_cons pe_str (pa_cons pe_str (pa_cons pe_str (pa_cons pe_str (pa_cons pe_str (pa_cons pe_str pa_nil))))))))))))))) (pg_name (i := 0) sc_law_reserved.nd rfl (Or.inl rfl))) (pss_one (ps_ret (pe_op op_add3 (pv 0) (pe_lst (pa_cons pe_str (pa_cons pe_str (pa_cons pe_str (pa_cons pe_str (pa_cons pe_str (pa_cons pe_str (pa_cons pe_str (pa_cons pe_str (pa_cons pe_str (pa_cons pe_str (pa_cons pe_str (pa_cons pe_str (pa_cons pe_str pa_nil)))))))))))))))))), ?_⟩
    walk_at "ss"
    refine n_obj (by decide) fun p H1 np s1 e1 => ?_
    walk_at "ss"
    refine n_obj (by decide) fun p2 H2 np2 s2 e2 => ?_
    refine o_addL (s2 _ _ e1) e2 (by decide) fun p3 H3 np3 s3 e3 => ?_
    exact q p3 H3 ((s1.trans s2).trans s3) ((s1.trans s2).free np3) e3
theorem k_law_is_name (T : Tx K mg) : C8.Cal P w K mg base 2 "_law_is_name" spNameW [] := by
  refine cal_of (N := n_law_is_name) T.d_law_is_name sc_law_is_name (fun _ _ F => F.bindsN fun _ _ _ _ _ _ us hl => match us, hl with | [_], _ => rfl) (fun vs H Q E h => ?_) (fun f cdv A outer s H vs Q E hr h => ?_)
  · obtain ⟨z, rfl, _⟩ := h
    rfl
  · obtain ⟨z, rfl, hz, q⟩ := h
    have hz2 : z.length ≤ sizeLine := Nat.le_of_lt (Nat.lt_of_le_of_lt hz (by decide))
    refine ⟨_, (pss_cons (ps_if (PW.pt (pw_or (pt_cmpR op_lt (pe_callB (call_len2 : CallR _ _ (rLn K)) (by rfl) T.z_len (by decide +kernel) (pa_cons (pv 0) pa_nil)) pe_int (nomark _)) (pw_or (pt_cmpR op_gt (pe_callB (call_len2 : CallR _ _ (rLn K)) (by rfl) T.z_len (by decide +kernel) (pa_cons (pv 0) pa_nil)) pe_int (nomark _)) (pw_or1 (pt_cmpR (op_in2 : OpR _ _ (rIn2 K)) (pv 0) (pe_c0 (k_law_reserved T) hr (by first | decide | omega) (by rfl)) (by rfl)))))) (pss_one (ps_ret pe_bl)) pss_nil) (pss_cons (ps_for PassesOwn.never rfl (pi_str (pv 0)) (pg_name (i := 1) sc_law_is_name.nd rfl (Or.inl rfl)) (pss_one (ps_if (pt_cmpR (op_ni2 : OpR _ _ (rNi2 K)) (pv 1) (pe_c0 (k_law_letters T) hr (by first | decide | omega) (by rfl)) (by rfl)) (pss_one (ps_ret pe_bl)) pss_nil))) (pss_one (ps_ret pe_bl)))), ?_⟩
    unfold nameW at q
    walk_at "ss"
    refine b_lenS hz2 ?_
    walk_at "ss"
    refine ite2 (fun e => ?_) (fun e => ?_)
    · have e := of_decide_eq_true e
      rw [decide_eq_false (show ¬ 1 ≤ z.length by omega)] at q
      refine iteT ?_
      walk_at "ss"
      exact q H (Same.refl H)
    · have e := of_decide_eq_false (Bool.eq_false_iff.mpr e)
      rw [decide_eq_true (show 1 ≤ z.length by omega)] at q
      walk_at "ss"
      refine b_lenS hz2 ?_
      walk_at "ss"
      refine ite2 (fun e => ?_) (fun e => ?_)
      · have e := of_decide_eq_true e
        rw [decide_eq_false (show ¬ z.length ≤ 12 by omega)] at q
        refine iteT ?_
        walk_at "ss"
        exact q H (Same.refl H)
      · have e := of_decide_eq_false (Bool.eq_false_iff.mpr e)
        rw [decide_eq_true (show z.length ≤ 12 by omega)] at q
        walk_at "ss"
        refine ⟨rfl, fun p H1 s1 np e1 => ?_⟩
        refine o_inL (lst_of e1) rfl (by decide +kernel) ?_
        walk_at "ss"
        cases e3 : inV (.str z) c_RESERVED with
        | true =>
          rw [e3] at q
          refine iteT ?_
          walk_at "ss"
          exact q H1 s1
        | false =>
          rw [e3] at q
          refine iteF ?_
          walk_at "ss"
          refine f_str (fun i σ H' => H' = H1 ∧ (∃ x, σ = [some (.str z), x]) ∧ ∀ c ∈ (tl z).take i, c ∈ tl LET) ⟨rfl, ⟨_, rfl⟩, by simp⟩ (fun i k σ H' g p => ?_) (fun σ H' p => ?_)
          · obtain ⟨rfl, ⟨x, rfl⟩, h3⟩ := p
            walk_at "ss"
            refine ⟨rfl, ?_⟩
            walk_at "ss"
            refine ite2 (fun e => ?_) (fun e => ?_)
            · have e := of_decide_eq_false (Bool.not_eq_true' _ ▸ e)
              walk_at "ss"
              rw [show decide (∀ c ∈ tl z, c ∈ tl LET) = false from decide_eq_false fun h => e (h k (List.mem_of_getElem? g))] at q
              exact q H' s1
            · have e : k ∈ tl LET := by simpa using e
              walk_at "ss"
              refine ⟨rfl, ⟨_, rfl⟩, fun c hc => ?_⟩
              rw [List.take_add_one, g] at hc
              rcases List.mem_append.mp hc with hc | hc
              · exact h3 c hc
              · rw [show c = k by simpa using hc]
                exact e
          · obtain ⟨rfl, ⟨x, rfl⟩, h3⟩ := p
            walk_at "ss"
            rw [List.take_length] at h3
            rw [show decide (∀ c ∈ tl z, c ∈ tl LET) = true from decide_eq_true h3] at q
            exact q H' s1
theorem k_law_is_number (T : Tx K mg) : C8.Cal P w K mg base 1 "_law_is_number" spNumW [] := by
  refine cal_of (N := n_law_is_number) T.d_law_is_number sc_law_is_number (fun _ _ F => F.bindsN fun _ _ _ _ _ _ us hl => match us, hl with | [_], _ => rfl) (fun vs H Q E h => ?_) (fun f cdv A outer s H vs Q E hr h => ?_)
  · obtain ⟨z, rfl, _⟩ := h
    rfl
  · obtain ⟨z, rfl, hz, q⟩ := h
    have hz2 : z.length ≤ sizeLine := Nat.le_of_lt (Nat.lt_of_le_of_lt hz (by decide))
    refine ⟨_, (pss_cons (ps_if (PW.pt (pw_or (pt_cmpR op_lt (pe_callB (call_len2 : CallR _ _ (rLn K)) (by rfl) T.z_len (by decide +kernel) (pa_cons (pv 0) pa_nil)) pe_int (nomark _)) (pw_or (pt_cmpR op_gt (pe_callB (call_len2 : CallR _ _ (rLn K)) (by rfl) T.z_len (by decide +kernel) (pa_cons (pv 0) pa_nil)) pe_int (nomark _)) (pw_or1 (PW.pt (pw_and (pt_cmpR op_gt (pe_callB (call_len2 : CallR _ _ (rLn K)) (by rfl) T.z_len (by decide +kernel) (pa_cons (pv 0) pa_nil)) pe_int (nomark _)) (pw_and1 (pt_cmpR (op_eq2 hr.units : OpR _ _ (rEq2 K)) (pe_ix (ix_seq : IxR _ (rIx K)) (pv 0) pe_int (fun _ _ => rfl)) pe_str (nomark _))))))))) (pss_one (ps_ret pe_bl)) pss_nil) (pss_cons (ps_for PassesOwn.never rfl (pi_str (pv 0)) (pg_name (i := 1) sc_law_is_number.nd rfl (Or.inl rfl)) (pss_one (ps_if (pt_cmpR (op_ni2 : OpR _ _ (rNi2 K)) (pv 1) pe_str (by rfl)) (pss_one (ps_ret pe_bl)) pss_nil))) (pss_one (ps_ret pe_bl)))), ?_⟩
    unfold numberW at q
    walk_at "ss"
    refine b_lenS hz2 ?_
    walk_at "ss"
    refine ite2 (fun e => ?_) (fun e => ?_)
    · have e := of_decide_eq_true e
      rw [decide_eq_false (show ¬ 1 ≤ z.length by omega)] at q
      refine iteT ?_
      walk_at "ss"
      simpa using q H (Same.refl H)
    · have e := of_decide_eq_false (Bool.eq_false_iff.mpr e)
      rw [decide_eq_true (show 1 ≤ z.length by omega)] at q
      obtain ⟨c, g1, g2⟩ := atI_cps (z := z) (i := 0) (by omega)
      rw [g1] at q
      walk_at "ss"
      refine b_lenS hz2 ?_
      walk_at "ss"
      refine ite2 (fun e => ?_) (fun e => ?_)
      · have e := of_decide_eq_true e
        rw [decide_eq_false (show ¬ z.length ≤ 10 by omega)] at q
        refine iteT ?_
        walk_at "ss"
        simpa using q H (Same.refl H)
      · have e := of_decide_eq_false (Bool.eq_false_iff.mpr e)
        rw [decide_eq_true (show z.length ≤ 10 by omega)] at q
        walk_at "ss"
        refine b_lenS hz2 ?_
        walk_at "ss"
        refine ite2 (fun e => ?_) (fun e => ?_)
        · have e := of_decide_eq_true e
          walk_at "ss"
          refine o_ixS hz2 g2 ?_
          walk_at "ss"
          refine o_eqS rfl ?_
          walk_at "ss"
          refine ite2 (fun e => ?_) (fun e => ?_)
          · have ec : c = 48 := (sign_eq (y := ("0" : Str)) (by decide +kernel)).mp e
            rw [decide_eq_false (show ¬ z.length = 1 by omega), decide_eq_true (show some c = some 48 by rw [ec])] at q
            walk_at "ss"
            simpa using q H (Same.refl H)
          · have ec : ¬ c = 48 := fun z => e ((sign_eq (y := ("0" : Str)) (by decide +kernel)).mpr z)
            have last : (decide (z.length = 1) || !decide (some c = some 48)) = true := by
              rw [decide_eq_false (fun e => ec (Option.some.inj e))]
              simp
            walk_at "ss"
            refine f_str (fun i σ H' => H' = H ∧ (∃ x, σ = [some (.str z), x]) ∧ ∀ c ∈ (tl z).take i, c ∈ tl DIG) ⟨rfl, ⟨_, rfl⟩, by simp⟩ (fun i k σ H' g p => ?_) (fun σ H' p => ?_)
            · obtain ⟨rfl, ⟨x, rfl⟩, h3⟩ := p
              walk_at "ss"
              refine ite2 (fun e => ?_) (fun e => ?_)
              · have e := of_decide_eq_false (Bool.not_eq_true' _ ▸ e)
                walk_at "ss"
                rw [show decide (∀ c ∈ tl z, c ∈ tl DIG) = false from decide_eq_false fun h => e (h k (List.mem_of_getElem? g))] at q
                exact q H' (Same.refl H')
              · have e : k ∈ tl DIG := by simpa using e
                walk_at "ss"
                refine ⟨rfl, ⟨_, rfl⟩, fun c hc => ?_⟩
                rw [List.take_add_one, g] at hc
                rcases List.mem_append.mp hc with hc | hc
                · exact h3 c hc
                · rw [show c = k by simpa using hc]
                  exact e
            · obtain ⟨rfl, ⟨x, rfl⟩, h3⟩ := p
              walk_at "ss"
              rw [List.take_length] at h3
              rw [show decide (∀ c ∈ tl z, c ∈ tl DIG) = true from decide_eq_true h3, last] at q
              exact q H' (Same.refl H')
        · have e := of_decide_eq_false (Bool.eq_false_iff.mpr e)
          have last : (decide (z.length = 1) || !decide (some c = some 48)) = true := by
            rw [decide_eq_true (show z.length = 1 by omega)]
            rfl
          refine iteF ?_
          walk_at "ss"
          refine f_str (fun i σ H' => H' = H ∧ (∃ x, σ = [some (.str z), x]) ∧ ∀ c ∈ (tl z).take i, c ∈ tl DIG) ⟨rfl, ⟨_, rfl⟩, by simp⟩ (fun i k σ H' g p => ?_) (fun σ H' p => ?_)
          · obtain ⟨rfl, ⟨x, rfl⟩, h3⟩ := p
            walk_at "ss"
            refine ite2 (fun e => ?_) (fun e => ?_)
            · have e := of_decide_eq_false (Bool.not_eq_true' _ ▸ e)
              walk_at "ss"
              rw [show decide (∀ c ∈ tl z, c ∈ tl DIG) = false from decide_eq_false fun h => e (h k (List.mem_of_getElem? g))] at q
              exact q H' (Same.refl H')
            · have e : k ∈ tl DIG := by simpa using e
              walk_at "ss"
              refine ⟨rfl, ⟨_, rfl⟩, fun c hc => ?_⟩
              rw [List.take_add_one, g] at hc
              rcases List.mem_append.mp hc with hc | hc
              · exact h3 c hc
              · rw [show c = k by simpa using hc]
                exact e
          · obtain ⟨rfl, ⟨x, rfl⟩, h3⟩ := p
            walk_at "ss"
            rw [List.take_length] at h3
            rw [show decide (∀ c ∈ tl z, c ∈ tl DIG) = true from decide_eq_true h3, last] at q
            exact q H' (Same.refl H')
end
end K01
namespace K01
open PySem PySem.Spec PyProof.Rows L2 Wy

section
variable {P : Program} {w : World} {K : PySem.W.Frag} {mg : Str → Option Value} {base : Heap}
/-- a text of at most m signs out of z -/
def spRunOf : Sp := fun vs H Q _ => ∃ (h d : Addr) (z : Str) (m : Int), vs = [.ref h, .str z, .int m] ∧ HandAt H h d ∧ 1 ≤ z.length ∧ z.length ≤ 1000 ∧ 1 ≤ m ∧ m ≤ 100 ∧ ∀ y H', (y : Str).length ≤ m.toNat → Keep h H H' → HandAt H' h d → Q (.str y) H'
theorem k_law_run_of (T : Tx K mg) : C8.Cal P w K mg base 2 "_law_run_of" spRunOf [] := by
  refine cal_of (N := n_law_run_of) T.d_law_run_of sc_law_run_of (fun _ _ F => F.bindsN fun _ _ _ _ _ _ us hl => match us, hl with | [_, _, _], _ => rfl) (fun vs H Q E h => ?_) (fun f cdv A outer s H vs Q E hr h => ?_)
  · obtain ⟨a, d, z, m, rfl, _⟩ := h
    rfl
  · obtain ⟨a, d, z, m, rfl, hh, l1, l2, m1, m2, q⟩ := h
    have hz2 : z.length ≤ sizeLine := Nat.le_of_lt (small1000 l2)
    refine ⟨_, (pss_one (ps_ret (pe_join2 pe_str (pe_lc (own := [("k", 3)]) (g := gName 3) (by rfl) sc_law_run_of.nd (pi_range1 (by rfl) T.z_range (pa_cons (pe_op op_add3 pe_int (C8.pe_c (k_law_take T) hr (by first | decide | omega) (by rfl) (pa_cons (pv 0) (pa_cons (pv 2) pa_nil)))) pa_nil)) (blkOk_by (own := [("k", 3)]) (N := n_law_run_of) (sc := defScope s_law_run_of) (by decide +kernel)) (fun _ _ _ _ _ => pg_name (i := 3) sc_law_run_of.nd rfl (Or.inl rfl)) (fun _ _ _ _ _ => pts_nil) (fun _ _ _ _ _ => (pe_ix (ix_seq : IxR _ (rIx K)) (pv 1) (C8.pe_c (k_law_take T) hr (by first | decide | omega) (by rfl) (pa_cons (pv 0) (pa_cons (pe_callB (call_len2 : CallR _ _ (rLn K)) (by rfl) T.z_len (by decide +kernel) (pa_cons (pv 1) pa_nil)) pa_nil))) (fun _ _ => rfl)))) : PE _ _ (tM1 (rJoin K) _ _)))), ?_⟩
    walk_at "ss"
    refine ⟨a, d, m, rfl, hh, by omega, fun r H1 r0 r1 c1 hh1 => ?_⟩
    walk_at "ss"
    refine k_r1 (by omega) (by omega) ?_
    refine c_range (fun D i H2 => ∃ acc : List Str, H2 D = some (.lst (acc.map V.str)) ∧ acc.length = i ∧ (∀ y ∈ acc, y.length = 1) ∧ Keep a H H2 ∧ HandAt H2 a d) (fun D H2 nD s2 e2 => ⟨[], e2, rfl, by simp, c1.keep.trans s2.keep, hh1.same s2⟩) (fun D i H2 hi nD p => ?_) (fun D H2 nD p => ?_)
    · obtain ⟨acc, e2, la, ha, k2, hh2⟩ := p
      have nn := hh1.new nD
      walk_at "ss"
      refine ⟨rfl, ?_⟩
      walk_at "ss"
      refine iteT ?_
      walk_at "ss"
      refine b_lenS hz2 ?_
      refine ⟨a, d, z.length, rfl, hh2, by omega, fun r H3 r2 r3 c3 hh3 => ?_⟩
      obtain ⟨j, hj⟩ : ∃ j : Nat, r = (j : Int) := ⟨r.toNat, by omega⟩
      subst hj
      obtain ⟨c, g1, g2⟩ := atI_cps (z := z) (i := j) (by omega)
      refine o_ixS hz2 g2 ?_
      have e3 := c3.at e2 nn.1.symm
      refine c_out e3 (by rw [List.length_map, la]; exact small1000 (by omega)) fun H4 c4 e4 => ⟨acc ++ [⟨#[c]⟩], by rw [e4, List.map_append]; rfl, by rw [List.length_append, la]; rfl, fun y hy => ?_, ?_, hh3.chg c4 nn.1 nn.2⟩
      · rcases List.mem_append.mp hy with hy | hy
        · exact ha y hy
        · rw [show y = ⟨#[c]⟩ by simpa using hy]
          rfl
      · exact (k2.trans c3.keep).chg c4 (c1.keep.free nD nn.1.symm)
    · obtain ⟨acc, e2, la, ha, k2, hh2⟩ := p
      have hs : (acc.map (·.length)).sum = acc.length := by
        clear e2 la
        induction acc with
        | nil => rfl
        | cons x r ih =>
          rw [List.map_cons, List.sum_cons, ih (fun y hy => ha y (List.mem_cons_of_mem _ hy)), ha x List.mem_cons_self, List.length_cons]
          omega
      walk_at "ss"
      refine m_join (lst_of e2) ?_ ?_
      · rw [hs, la]
        show _ + _ * 0 ≤ _
        omega
      · refine q _ H2 ?_ k2 hh2
        rw [str_len, join_empty, List.length_flatten, List.map_map]
        have e5 : (acc.map (List.length ∘ fun y : Str => y.cps.toList)).sum = (acc.map (·.length)).sum := congrArg List.sum (List.map_congr_left fun y _ => (str_len y).symm)
        rw [e5, hs, la]
        omega
def spPiece : Sp := fun vs H Q _ => ∃ (h d : Addr), vs = [.ref h] ∧ HandAt H h d ∧ ∀ y H', (y : Str).length ≤ 20 → Keep h H H' → HandAt H' h d → Q (.str y) H'
theorem k_law_piece (T : Tx K mg) : C8.Cal P w K mg base 3 "_law_piece" spPiece [] := by
  refine cal_of (N := n_law_piece) T.d_law_piece sc_law_piece (fun _ _ F => F.bindsN fun _ _ _ _ _ _ us hl => match us, hl with | [_], _ => rfl) (fun vs H Q E h => ?_) (fun f cdv A outer s H vs Q E hr h => ?_)
  · obtain ⟨a, d, rfl, _⟩ := h
    rfl
  · obtain ⟨a, d, rfl, hh, q⟩ := h
    refine ⟨_, (pss_cons (ps_asg (pe_lst (pa_cons pe_str (pa_cons pe_str (pa_cons pe_str (pa_cons pe_str (pa_cons pe_str (pa_cons pe_str (pa_cons pe_str (pa_cons pe_str (pa_cons pe_str (pa_cons pe_str (pa_cons pe_str (pa_cons pe_str (pa_cons pe_str (pa_cons pe_str (pa_cons pe_str pa_nil)))))))))))))))) (pg_name (i := 1) sc_law_piece.nd rfl (Or.inl rfl))) (pss_cons (ps_asg pe_str (pg_name (i := 2) sc_law_piece.nd rfl (Or.inl rfl))) (pss_cons (ps_asg (C8.pe_c (k_law_take T) hr (by first | decide | omega) (by rfl) (pa_cons (pv 0) (pa_cons pe_int pa_nil))) (pg_name (i := 3) sc_law_piece.nd rfl (Or.inl rfl))) (pss_cons (ps_if (pt_cmpR (op_eq2 hr.units : OpR _ _ (rEq2 K)) (pv 3) pe_int (nomark _)) (pss_one (ps_ret (pe_op op_mul2 pe_str (pe_op op_add3 pe_int (C8.pe_c (k_law_take T) hr (by first | decide | omega) (by rfl) (pa_cons (pv 0) (pa_cons pe_int pa_nil))))))) pss_nil) (pss_cons (ps_if (pt_cmpR (op_eq2 hr.units : OpR _ _ (rEq2 K)) (pv 3) pe_int (nomark _)) (pss_one (ps_ret (pe_ix (ix_seq : IxR _ (rIx K)) (pe_c0 (k_law_reserved T) hr (by first | decide | omega) (by rfl)) (C8.pe_c (k_law_take T) hr (by first | decide | omega) (by rfl) (pa_cons (pv 0) (pa_cons pe_int pa_nil))) (fun _ _ => rfl)))) pss_nil) (pss_cons (ps_if (pt_cmpR (op_eq2 hr.units : OpR _ _ (rEq2 K)) (pv 3) pe_int (nomark _)) (pss_one (ps_ret (C8.pe_c (k_law_run_of T) hr (by first | decide | omega) (by rfl) (pa_cons (pv 0) (pa_cons (pe_c0 (k_law_letters T) hr (by first | decide | omega) (by rfl)) (pa_cons pe_int pa_nil)))))) pss_nil) (pss_cons (ps_if (pt_cmpR (op_eq2 hr.units : OpR _ _ (rEq2 K)) (pv 3) pe_int (nomark _)) (pss_one (ps_ret (C8.pe_c (k_law_run_of T) hr (by first | decide | omega) (by rfl) (pa_cons (pv 0) (pa_cons pe_str (pa_cons pe_int pa_nil)))))) pss_nil) (pss_cons (ps_if (pt_cmpR op_lt (pv 3) pe_int (nomark _)) (pss_one (ps_ret (pe_ix (ix_seq : IxR _ (rIx K)) (pv 1) (C8.pe_c (k_law_take T) hr (by first | decide | omega) (by rfl) (pa_cons (pv 0) (pa_cons pe_int pa_nil))) (fun _ _ => rfl)))) pss_nil) (pss_cons (ps_if (pt_cmpR (op_eq2 hr.units : OpR _ _ (rEq2 K)) (pv 3) pe_int (nomark _)) (pss_one (ps_ret (pe_ix (ix_seq : IxR _ (rIx K)) (pv 2) (C8.pe_c (k_law_take T) hr (by first | decide | omega) (by rfl) (pa_cons (pv 0) (pa_cons (pe_callB (call_len2 : CallR _ _ (rLn K)) (by rfl) T.z_len (by decide +kernel) (pa_cons (pv 2) pa_nil)) pa_nil))) (fun _ _ => rfl)))) pss_nil) (pss_one (ps_ret (C8.pe_c (k_law_run_of T) hr (by first | decide | omega) (by rfl) (pa_cons (pv 0) (pa_cons (pe_op op_add3 (pe_c0 (k_law_letters T) hr (by first | decide | omega) (by rfl)) pe_str) (pa_cons pe_int pa_nil))))))))))))))), ?_⟩
    walk_at "ss"
    refine n_obj (by decide) fun p H1 np s1 e1 => ?_
    have hh1 := hh.same s1
    have nn := hh.new np
    walk_at "ss"
    refine ⟨a, d, 12, rfl, hh1, by omega, fun r H2 r0 r1 c2 hh2 => ?_⟩
    have k2 : Keep a H H2 := s1.keep.trans c2.keep
    have e2 := c2.at e1 nn.1.symm
    walk_at "ss"
    refine o_eqS rfl ?_
    walk_at "ss"
    refine ite2 (fun e => ?_) (fun e => ?_)
    · walk_at "ss"
      refine ⟨a, d, 3, rfl, hh2, by omega, fun r H3 r2 r3 c3 hh3 => ?_⟩
      walk_at "ss"
      refine o_mulS (by omega) (by omega) (by decide) ?_
      refine q _ H3 ?_ (k2.trans c3.keep) hh3
      rw [repS_len]
      show _ * 1 ≤ _
      omega
    · walk_at "ss"
      refine o_eqS rfl ?_
      walk_at "ss"
      refine ite2 (fun e => ?_) (fun e => ?_)
      · walk_at "ss"
        refine ⟨rfl, fun p3 H3 s3 np3 e3 => ?_⟩
        have nn3 := hh2.new np3
        walk_at "ss"
        refine ⟨a, d, 27, rfl, hh2.same s3, by omega, fun r H4 r2 r3 c4 hh4 => ?_⟩
        obtain ⟨j, hj⟩ : ∃ j : Nat, r = (j : Int) := ⟨r.toNat, by omega⟩
        subst hj
        obtain ⟨y, g, ly⟩ := item_str (c_RESERVED) (m := 12) (by decide +kernel) (j := j) (show j < 27 by omega)
        refine o_ixL (lst_of (c4.at e3 nn3.1.symm)) (atI_nat g) ?_
        exact q _ H4 (by omega) ((k2.trans s3.keep).trans c4.keep) hh4
      · walk_at "ss"
        refine o_eqS rfl ?_
        walk_at "ss"
        refine ite2 (fun e => ?_) (fun e => ?_)
        · walk_at "ss"
          refine ⟨rfl, ?_⟩
          walk_at "ss"
          exact ⟨a, d, LET, 14, rfl, hh2, by decide +kernel, by decide +kernel, by omega, by omega, fun y H3 ly k3 hh3 => q y H3 (by omega) (k2.trans k3) hh3⟩
        · walk_at "ss"
          refine o_eqS rfl ?_
          walk_at "ss"
          refine ite2 (fun e => ?_) (fun e => ?_)
          · walk_at "ss"
            exact ⟨a, d, DIG, 12, rfl, hh2, by decide +kernel, by decide +kernel, by omega, by omega, fun y H3 ly k3 hh3 => q y H3 (by omega) (k2.trans k3) hh3⟩
          · walk_at "ss"
            refine ite2 (fun e => ?_) (fun e => ?_)
            · walk_at "ss"
              refine ⟨a, d, 15, rfl, hh2, by omega, fun r H4 r2 r3 c4 hh4 => ?_⟩
              obtain ⟨j, hj⟩ : ∃ j : Nat, r = (j : Int) := ⟨r.toNat, by omega⟩
              subst hj
              obtain ⟨y, g, ly⟩ := item_str ([.str "<=", .str ">=", .str "==", .str "!=", .str "<", .str ">", .str "=", .str "+", .str "-", .str "(", .str ")", .str "[", .str "]", .str ",", .str ":"]) (m := 12) (by decide +kernel) (j := j) (show j < 15 by omega)
              refine o_ixL (lst_of (c4.at e2 nn.1.symm)) (atI_nat g) ?_
              exact q _ H4 (by omega) (k2.trans c4.keep) hh4
            · walk_at "ss"
              refine o_eqS rfl ?_
              walk_at "ss"
              refine ite2 (fun e => ?_) (fun e => ?_)
              · walk_at "ss"
                refine b_lenS (by decide +kernel) ?_
                refine ⟨a, d, _, rfl, hh2, by decide +kernel, fun r H4 r2 r3 c4 hh4 => ?_⟩
                obtain ⟨j, hj⟩ : ∃ j : Nat, r = (j : Int) := ⟨r.toNat, by omega⟩
                subst hj
                obtain ⟨c, g1, g2⟩ := atI_cps (z := _) (i := j) (by exact Int.ofNat_lt.mp r3)
                refine o_ixS (by decide +kernel) g2 ?_
                exact q _ H4 (by show 1 ≤ 20; omega) (k2.trans c4.keep) hh4
              · walk_at "ss"
                refine ⟨rfl, ?_⟩
                walk_at "ss"
                refine o_addS (by decide +kernel) ?_
                walk_at "ss"
                exact ⟨a, d, _, 2, rfl, hh2, by decide +kernel, by decide +kernel, by omega, by omega, fun y H3 ly k3 hh3 => q y H3 (by omega) (k2.trans k3) hh3⟩
end
end K01
namespace K01
open PySem PySem.Spec PyProof.Rows L2 Wy

section
variable {P : Program} {w : World} {K : PySem.W.Frag} {mg : Str → Option Value} {base : Heap}
theorem k_law_end_of (T : Tx K mg) : C8.Cal P w K mg base 1 "_law_end_of" spRunEnd [] := by
  refine cal_of (N := n_law_end_of) T.d_law_end_of sc_law_end_of (fun _ _ F => F.bindsN fun _ _ _ _ _ _ us hl => match us, hl with | [_, _, _], _ => rfl) (fun vs H Q E h => ?_) (fun f cdv A outer s H vs Q E hr h => ?_)
  · obtain ⟨z, p, i, rfl, _⟩ := h
    rfl
  · obtain ⟨z, p, i, rfl, hz, hi, q⟩ := h
    have hz2 : z.length ≤ sizeLine := Nat.le_of_lt (Nat.lt_of_le_of_lt hz (by decide))
    have hl : z.length = (tl z).length := str_len z
    refine ⟨_, (pss_cons (ps_for PassesOwn.never rfl (pi_range2 (by rfl) T.z_range (pa_cons (pv 1) (pa_cons (pe_callB (call_len2 : CallR _ _ (rLn K)) (by rfl) T.z_len (by decide +kernel) (pa_cons (pv 0) pa_nil)) pa_nil))) (pg_name (i := 3) sc_law_end_of.nd rfl (Or.inl rfl)) (pss_one (ps_if (pt_cmpR (op_ni2 : OpR _ _ (rNi2 K)) (pe_ix (ix_seq : IxR _ (rIx K)) (pv 0) (pv 3) (fun _ _ => rfl)) (pv 2) (by rfl)) (pss_one (ps_ret (pv 3))) pss_nil))) (pss_one (ps_ret (pe_callB (call_len2 : CallR _ _ (rLn K)) (by rfl) T.z_len (by decide +kernel) (pa_cons (pv 0) pa_nil))))), ?_⟩
    walk_at "ss"
    refine b_lenS hz2 ?_
    walk_at "ss"
    refine k_r2 (by omega) ?_
    have en : ((z.length : Int) - (i : Int)).toNat = z.length - i := by omega
    rw [en]
    refine f_range (fun t σ H' => H' = H ∧ runEnd (tl z) (tl p) (i + t) = runEnd (tl z) (tl p) i ∧ ∃ x, σ = [some (.str z), some (.int i), some (.str p), x]) ⟨rfl, rfl, _, rfl⟩ (fun t σ H' ht p' => ?_) (fun σ H' p' => ?_)
    · obtain ⟨rfl, er, x, rfl⟩ := p'
      obtain ⟨c, g1, g2⟩ := atI_cps (z := z) (i := i + t) (by omega)
      rw [show ((i + t : Nat) : Int) = (i : Int) + (t : Int) by omega] at g2
      walk_at "ss"
      refine o_ixS hz2 g2 ?_
      walk_at "ss"
      refine ite2 (fun e => ?_) (fun e => ?_)
      · have e := of_decide_eq_false (Bool.not_eq_true' _ ▸ e)
        walk_at "ss"
        rw [← er, runEnd_no g1 e] at q
        exact q
      · have e : c ∈ tl p := by simpa using e
        walk_at "ss"
        exact ⟨rfl, by rw [← er, runEnd_yes g1 e, Nat.add_assoc], _, rfl⟩
    · obtain ⟨rfl, er, x, rfl⟩ := p'
      walk_at "ss"
      refine b_lenS hz2 ?_
      rw [← er, show i + (z.length - i) = z.length by omega, runEnd_out (by omega)] at q
      exact q
theorem k_law_words (T : Tx K mg) : C8.Cal P w K mg base 2 "_law_words" spSplit [] := by
  refine cal_of (N := n_law_words) T.d_law_words sc_law_words (fun _ _ F => F.bindsN fun _ _ _ _ _ _ us hl => match us, hl with | [_], _ => rfl) (fun vs H Q E h => ?_) (fun f cdv A outer s H vs Q E hr h => ?_)
  · obtain ⟨z, rfl, _⟩ := h
    rfl
  · obtain ⟨z, rfl, hz, q⟩ := h
    have hz2 : z.length ≤ sizeLine := Nat.le_of_lt (Nat.lt_of_le_of_lt hz (by decide))
    have hl : z.length = (tl z).length := str_len z
    refine ⟨_, (pss_cons (ps_asg (pe_lst pa_nil) (pg_name (i := 1) sc_law_words.nd rfl (Or.inl rfl))) (pss_cons (ps_asg pe_int (pg_name (i := 2) sc_law_words.nd rfl (Or.inl rfl))) (pss_cons (ps_for PassesOwn.never rfl (pi_range1 (by rfl) T.z_range (pa_cons (pe_callB (call_len2 : CallR _ _ (rLn K)) (by rfl) T.z_len (by decide +kernel) (pa_cons (pv 0) pa_nil)) pa_nil)) (pg_name (i := 3) sc_law_words.nd rfl (Or.inl rfl)) (pss_cons (ps_if (pt_cmpR op_ge (pv 2) (pe_callB (call_len2 : CallR _ _ (rLn K)) (by rfl) T.z_len (by decide +kernel) (pa_cons (pv 0) pa_nil)) (nomark _)) (pss_one ps_break) pss_nil) (pss_cons (ps_asg (pe_op op_add3 (pv 2) pe_int) (pg_name (i := 4) sc_law_words.nd rfl (Or.inl rfl))) (C8.pss_cut (ps_if (pt_cmpR (op_in2 : OpR _ _ (rIn2 K)) (pe_ix (ix_seq : IxR _ (rIx K)) (pv 0) (pv 2) (fun _ _ => rfl)) (pe_c0 (k_law_letters T) hr (by first | decide | omega) (by rfl)) (by rfl)) (pss_one (ps_asg (C8.pe_c (k_law_end_of T) hr (by first | decide | omega) (by rfl) (pa_cons (pv 0) (pa_cons (pv 2) (pa_cons (pe_c0 (k_law_letters T) hr (by first | decide | omega) (by rfl)) pa_nil)))) (pg_name (i := 4) sc_law_words.nd rfl (Or.inl rfl)))) (pss_one (ps_if (pt_cmpR (op_in2 : OpR _ _ (rIn2 K)) (pe_ix (ix_seq : IxR _ (rIx K)) (pv 0) (pv 2) (fun _ _ => rfl)) pe_str (by rfl)) (pss_one (ps_asg (C8.pe_c (k_law_end_of T) hr (by first | decide | omega) (by rfl) (pa_cons (pv 0) (pa_cons (pv 2) (pa_cons pe_str pa_nil)))) (pg_name (i := 4) sc_law_words.nd rfl (Or.inl rfl)))) (pss_one (ps_if (pt_cmpR (op_in2 : OpR _ _ (rIn2 K)) (pe_slice (sl_2 : SlR _ (rSl2 K)) (pv 0) (po_some (pv 2)) (po_some (pe_op op_add3 (pv 2) pe_int))) (pe_lst (pa_cons pe_str (pa_cons pe_str (pa_cons pe_str (pa_cons pe_str pa_nil))))) (by rfl)) (pss_one (ps_asg (pe_op op_add3 (pv 2) pe_int) (pg_name (i := 4) sc_law_words.nd rfl (Or.inl rfl)))) (pss_one (ps_if (pt_cmpR (op_ni2 : OpR _ _ (rNi2 K)) (pe_ix (ix_seq : IxR _ (rIx K)) (pv 0) (pv 2) (fun _ _ => rfl)) pe_str (by rfl)) (pss_one (ps_ret pe_non)) pss_nil))))))) (C8.pss_cut (ps_if (pt_cmpR (op_ne2 hr.units : OpR _ _ (rNe2 K)) (pe_ix (ix_seq : IxR _ (rIx K)) (pv 0) (pv 2) (fun _ _ => rfl)) pe_str (nomark _)) (pss_one (ps_expr (pe_bm PySem.F.plainAttrs_list PySem.F.slot_list_append PySem.F.type_list_append mt_append (pv 1) (pa_cons (pe_slice (sl_2 : SlR _ (rSl2 K)) (pv 0) (po_some (pv 2)) (po_some (pv 4))) pa_nil) : PE _ _ (tBM K _ _ _ _)))) pss_nil) (pss_one (ps_asg (pv 4) (pg_name (i := 2) sc_law_words.nd rfl (Or.inl rfl))))))))) (pss_one (ps_ret (pv 1)))))), ?_⟩
    walk_at "ss"
    refine n_obj (Nat.zero_le _) fun p H1 np s1 e1 => ?_
    walk_at "ss"
    refine b_lenS hz2 ?_
    walk_at "ss"
    refine k_r1 (by omega) (by omega) ?_
    rw [show ((z.length : Int)).toNat = z.length from Int.toNat_natCast _]
    refine f_range (fun i σ H' => Same H H' ∧ ∃ (j : Nat) (acc : List Str) (x y : Option V), i ≤ j ∧ j ≤ z.length ∧ acc.length ≤ j ∧ from_ z j acc = wordsOf z ∧ H' p = some (.lst (acc.map V.str)) ∧ σ = [some (.str z), some (.ref p), some (.int j), x, y])
      ⟨s1, 0, [], _, _, Nat.le_refl _, Nat.zero_le _, Nat.le_refl _, rfl, e1, rfl⟩ (fun i σ H2 hi hW => ?_) (fun σ H2 hW => ?_)
    · obtain ⟨s2, j, acc, x, y, hij, hj, ha, er, e2, rfl⟩ := hW
      walk_at "ss"
      refine b_lenS hz2 ?_
      walk_at "ss"
      refine ite2 (fun e => ?_) (fun e => ?_)
      · have e := of_decide_eq_true e
        walk_at "ss"
        refine q _ _ s2 ?_
        rw [← er, from_out (by omega)]
        exact ⟨p, rfl, np, e2⟩
      · have e := of_decide_eq_false (Bool.eq_false_iff.mpr e)
        obtain ⟨c, g1, g2⟩ := atI_cps (z := z) (i := j) (by omega)
        have st := from_step (acc := acc) g1
        rw [er] at st
        walk_at "ss"
        -- the end of the word
        refine s_cut (fun σ H' => Same H H' ∧ H' p = some (.lst (acc.map V.str)) ∧ ∃ e : Nat, ((c = 32 ∧ e = j + 1) ∨ (c ≠ 32 ∧ e = wordEnd z j c ∧ e ≠ j)) ∧ σ = [some (.str z), some (.ref p), some (.int j), some (.int (0 + (i : Int))), some (.int e)]) ?_ (fun σ' H' hM => ?_)
        · walk_at "ss"
          refine o_ixS hz2 g2 ?_
          walk_at "ss"
          refine ⟨rfl, ?_⟩
          walk_at "ss"
          refine ite2 (fun e => ?_) (fun e => ?_)
          · have e := of_decide_eq_true e
            walk_at "ss"
            refine ⟨rfl, ?_⟩
            walk_at "ss"
            refine ⟨z, LET, j, rfl, hz, hj, ?_⟩
            walk_at "ss"
            have r1 : j + 1 ≤ runEnd (tl z) (tl LET) j := by
              rw [show runEnd (tl z) (tl LET) j = _ from runEnd_yes g1 e]
              exact runEnd_ge _ _ _
            refine ⟨s2, e2, runEnd (tl z) (tl LET) j, .inr ⟨fun ec => ?_, ?_, by omega⟩, rfl⟩
            · rw [ec] at e
              revert e
              decide +kernel
            · unfold wordEnd
              rw [if_pos e]
          · have e := of_decide_eq_false (Bool.eq_false_iff.mpr e)
            walk_at "ss"
            refine o_ixS hz2 g2 ?_
            walk_at "ss"
            refine ite2 (fun e' => ?_) (fun e' => ?_)
            · have e' := of_decide_eq_true e'
              walk_at "ss"
              refine ⟨z, DIG, j, rfl, hz, hj, ?_⟩
              walk_at "ss"
              have r1 : j + 1 ≤ runEnd (tl z) (tl DIG) j := by
                rw [show runEnd (tl z) (tl DIG) j = _ from runEnd_yes g1 e']
                exact runEnd_ge _ _ _
              refine ⟨s2, e2, runEnd (tl z) (tl DIG) j, .inr ⟨fun ec => ?_, ?_, by omega⟩, rfl⟩
              · rw [ec] at e'
                revert e'
                decide +kernel
              · unfold wordEnd
                rw [if_neg e, if_pos e']
            · have e' := of_decide_eq_false (Bool.eq_false_iff.mpr e')
              walk_at "ss"
              refine l_S hz2 ?_
              walk_at "ss"
              refine n_obj (by decide) fun p3 H3 np3 s3 e3 => ?_
              refine o_inL (lst_of e3) rfl (by decide +kernel) ?_
              walk_at "ss"
              refine ite2 (fun e4 => ?_) (fun e4 => ?_)
              · have e4 : pairAt z j = true := e4
                walk_at "ss"
                refine ⟨s2.trans s3, s3 _ _ e2, j + 2, .inr ⟨fun ec => ?_, ?_, by omega⟩, rfl⟩
                · obtain ⟨a, h1, _, h2⟩ := pair_cps.mp e4
                  rw [show (tl z)[j]? = some c from g1] at h1
                  have := Option.some.inj h1
                  omega
                · unfold wordEnd
                  rw [if_neg e, if_neg e', if_pos e4]
              · have e4 : ¬ pairAt z j = true := e4
                walk_at "ss"
                refine o_ixS hz2 g2 ?_
                walk_at "ss"
                refine ite2 (fun e5 => ?_) (fun e5 => ?_)
                · have e5 := of_decide_eq_false (Bool.not_eq_true' _ ▸ e5)
                  have n1 : c ≠ 32 := fun ec => e5 (by rw [ec]; decide +kernel)
                  have n2 : c ∉ tl SHO := fun h => e5 (by
                    have : ∀ x ∈ tl SHO, x ∈ ((("<>=+-()[],: " : Str)).cps.toList) := by decide +kernel
                    exact this c h)
                  have n3 : wordEnd z j c = j := by
                    unfold wordEnd
                    rw [if_neg e, if_neg e', if_neg e4, if_neg n2]
                  rw [if_neg n1, if_pos n3] at st
                  walk_at "ss"
                  refine q _ _ (s2.trans s3) ?_
                  rw [st]
                  rfl
                · have e5 : c ∈ ((("<>=+-()[],: " : Str)).cps.toList) := by simpa using e5
                  walk_at "ss"
                  by_cases ec : c = 32
                  · exact ⟨s2.trans s3, s3 _ _ e2, j + 1, .inl ⟨ec, rfl⟩, rfl⟩
                  · have n2 : c ∈ tl SHO := by
                      have : ∀ x ∈ ((("<>=+-()[],: " : Str)).cps.toList), x ≠ 32 → x ∈ tl SHO := by decide +kernel
                      exact this c e5 ec
                    refine ⟨s2.trans s3, s3 _ _ e2, j + 1, .inr ⟨ec, ?_, by omega⟩, rfl⟩
                    unfold wordEnd
                    rw [if_neg e, if_neg e', if_neg e4, if_pos n2]
        · obtain ⟨s3, e3, e, he, rfl⟩ := hM
          walk_at "ss"
          refine s_cut (fun σ H' => Same H H' ∧ ∃ acc' : List Str, acc'.length ≤ e ∧ e ≤ z.length ∧ i + 1 ≤ e ∧ from_ z e acc' = wordsOf z ∧ H' p = some (.lst (acc'.map V.str)) ∧ σ = [some (.str z), some (.ref p), some (.int j), some (.int (0 + (i : Int))), some (.int e)]) ?_ (fun σ' H' hM => ?_)
          · walk_at "ss"
            refine o_ixS hz2 g2 ?_
            walk_at "ss"
            refine o_neS rfl ?_
            walk_at "ss"
            rcases he with ⟨ec, he⟩ | ⟨ec, he, hn⟩
            · rw [(sign_eq (y := (" " : Str)) (by decide +kernel)).mpr ec]
              rw [if_pos ec] at st
              refine iteF ?_
              walk_at "ss"
              exact ⟨s3, acc, by omega, by omega, by omega, by rw [he]; exact st.symm, e3, rfl⟩
            · rw [Bool.eq_false_iff.mpr (fun z => ec ((sign_eq (y := (" " : Str)) (by decide +kernel)).mp z))]
              rw [if_neg ec, if_neg (by omega)] at st
              refine iteT ?_
              walk_at "ss"
              refine m_ty (lst_of e3) ?_
              walk_at "ss"
              refine l_S hz2 ?_
              walk_at "ss"
              refine m_app e3 (by rw [List.length_map]; exact Nat.lt_of_le_of_lt (Nat.le_trans ha hj) (Nat.lt_of_le_of_lt hz (by decide))) fun H4 c4 e4 => ?_
              have g3 := wordEnd_ge z j c
              have g4 := wordEnd_le g1
              refine ⟨c4.same s3 np, acc ++ [cutS z (some (j : Int)) (some (e : Int))], ?_, by omega, by omega, by rw [he]; exact st.symm, ?_, rfl⟩
              · rw [List.length_append]
                show acc.length + 1 ≤ _
                omega
              · rw [List.map_append]
                exact e4
          · obtain ⟨s4, acc', b1, b2, b3, b4, b5, rfl⟩ := hM
            walk_at "ss"
            exact ⟨s4, e, acc', _, _, b3, b2, b1, b4, b5, rfl⟩
    · obtain ⟨s2, j, acc, x, y, hij, hj, ha, er, e2, rfl⟩ := hW
      walk_at "ss"
      refine q _ _ s2 ?_
      rw [← er, from_out (by omega)]
      exact ⟨p, rfl, np, e2⟩
def spIsRight : Sp := fun vs H Q _ => ∃ v1 v2 o, vs = [v1, v2] ∧ WordsV H v1 o ∧ WordsV H v2 o ∧ (∀ ws, o = some ws → (ws : List Str).length ≤ 1000000) ∧ Q (.bl true) H
theorem k_law_is_right (T : Tx K mg) : C8.Cal P w K mg base 1 "_law_is_right" spIsRight [] := by
  refine cal_of (N := n_law_is_right) T.d_law_is_right sc_law_is_right (fun _ _ F => F.bindsN fun _ _ _ _ _ _ us hl => match us, hl with | [_, _], _ => rfl) (fun vs H Q E h => ?_) (fun f cdv A outer s H vs Q E hr h => ?_)
  · obtain ⟨v1, v2, o, rfl, _⟩ := h
    rfl
  · obtain ⟨v1, v2, o, rfl, h1, h2, hl, q⟩ := h
    refine ⟨_, (pss_cons (ps_if (pt_cmpR op_isN2 (pv 1) pe_non (nomark _)) (pss_one (ps_ret (pe_cmpR op_isN2 (pv 0) pe_non (nomark _)))) pss_nil) (pss_cons (ps_if (PW.pt (pw_or (pt_not (pt_tr (pe_callB (call_isi : CallR _ _ (rIsi K)) (by rfl) T.z_isinstance (by decide +kernel) (pa_cons (pv 0) (pa_cons (pe_bltn (v := .ty "list") (by rfl) T.z_list (by decide +kernel) rfl) pa_nil))) : PT _ _ (tTr K _))) (pw_or1 (pt_cmpR (op_ne2 hr.units : OpR _ _ (rNe2 K)) (pe_callB (call_len2 : CallR _ _ (rLn K)) (by rfl) T.z_len (by decide +kernel) (pa_cons (pv 0) pa_nil)) (pe_callB (call_len2 : CallR _ _ (rLn K)) (by rfl) T.z_len (by decide +kernel) (pa_cons (pv 1) pa_nil)) (nomark _))))) (pss_one (ps_ret pe_bl)) pss_nil) (pss_cons (ps_for PassesOwn.never rfl (pi_range1 (by rfl) T.z_range (pa_cons (pe_callB (call_len2 : CallR _ _ (rLn K)) (by rfl) T.z_len (by decide +kernel) (pa_cons (pv 1) pa_nil)) pa_nil)) (pg_name (i := 2) sc_law_is_right.nd rfl (Or.inl rfl)) (pss_one (ps_if (PW.pt (pw_or (pt_not (pt_tr (pe_callB (call_isi : CallR _ _ (rIsi K)) (by rfl) T.z_isinstance (by decide +kernel) (pa_cons (pe_ix (ix_seq : IxR _ (rIx K)) (pv 0) (pv 2) (fun _ _ => rfl)) (pa_cons (pe_bltn (v := .ty "str") (by rfl) T.z_str (by decide +kernel) rfl) pa_nil))) : PT _ _ (tTr K _))) (pw_or1 (pt_cmpR (op_ne2 hr.units : OpR _ _ (rNe2 K)) (pe_ix (ix_seq : IxR _ (rIx K)) (pv 0) (pv 2) (fun _ _ => rfl)) (pe_ix (ix_seq : IxR _ (rIx K)) (pv 1) (pv 2) (fun _ _ => rfl)) (nomark _))))) (pss_one (ps_ret pe_bl)) pss_nil))) (pss_one (ps_ret pe_bl))))), ?_⟩
    cases o with
    | none =>
      obtain rfl : v1 = .non := h1
      obtain rfl : v2 = .non := h2
      walk_at "ss"
      refine iteT ?_
      walk_at "ss"
      exact q
    | some ws =>
      obtain ⟨p1, rfl, e1⟩ := h1
      obtain ⟨p2, rfl, e2⟩ := h2
      have hl := hl ws rfl
      walk_at "ss"
      refine iteF ?_
      walk_at "ss"
      refine b_isi (.base (.lst e1)) (b := true) (kit_ty (by decide +kernel)) ?_
      walk_at "ss"
      refine iteF ?_
      walk_at "ss"
      refine b_lenL (lst_of e1) ?_
      walk_at "ss"
      refine b_lenL (lst_of e2) ?_
      refine o_neS rfl ?_
      walk_at "ss"
      rw [decide_eq_true rfl]
      refine iteF ?_
      walk_at "ss"
      refine b_lenL (lst_of e2) ?_
      walk_at "ss"
      rw [List.length_map]
      refine k_r1 (by omega) (by omega) ?_
      rw [Int.toNat_natCast]
      refine f_range (fun i σ H' => H' = H ∧ ∃ x, σ = [some (.ref p1), some (.ref p2), x]) ⟨rfl, _, rfl⟩ (fun i σ H' hi p => ?_) (fun σ H' p => ?_)
      · obtain ⟨rfl, x, rfl⟩ := p
        have g : (ws.map V.str)[i]? = some (.str ws[i]) := by
          rw [List.getElem?_map, List.getElem?_eq_getElem hi]
          rfl
        walk_at "ss"
        refine o_ixL (lst_of e1) (atI_of (by omega) g) ?_
        walk_at "ss"
        refine b_isi (.base (.str _)) (b := true) (kit_ty (by decide +kernel)) ?_
        walk_at "ss"
        refine iteF ?_
        walk_at "ss"
        refine o_ixL (lst_of e1) (atI_of (by omega) g) ?_
        walk_at "ss"
        refine o_ixL (lst_of e2) (atI_of (by omega) g) ?_
        refine o_neS rfl ?_
        walk_at "ss"
        rw [decide_eq_true rfl]
        refine iteF ?_
        walk_at "ss"
        exact ⟨rfl, _, rfl⟩
      · obtain ⟨rfl, x, rfl⟩ := p
        walk_at "ss"
        exact q
end
end K01
namespace K01
open PySem PySem.Spec PyProof.Rows L2 Wy

theorem WordsV.at {H H' : Hp} {v : V} {o : Option (List Str)} (x : WordsV H v o) (k : ∀ p ob, v = .ref p → H p = some ob → H' p = some ob) : WordsV H' v o := by
  cases o with
  | none => exact x
  | some ws =>
    obtain ⟨p, rfl, e⟩ := x
    exact ⟨p, rfl, k p _ rfl e⟩
theorem WordsV.same {H H' : Hp} {v : V} {o : Option (List Str)} (x : WordsV H v o) (s : Same H H') : WordsV H' v o := x.at fun p ob _ e => s p ob e
theorem WordsV.hand {H : Hp} {v : V} {o : Option (List Str)} {h d : Addr} (x : WordsV H v o) (hh : HandAt H h d) : v ≠ .ref h := by
  intro e
  subst e
  obtain ⟨n, ds, h1, _, _⟩ := hh
  cases o with
  | none => cases (show V.ref h = V.non from x)
  | some ws =>
    obtain ⟨p, e, e2⟩ := x
    cases e
    rw [h1] at e2
    cases ws <;> cases e2
theorem WordsV.keep {H H' : Hp} {v : V} {o : Option (List Str)} {h d : Addr} (x : WordsV H v o) (hh : HandAt H h d) (k : Keep h H H') : WordsV H' v o :=
  x.at fun p ob e e2 => k p ob (fun e3 => x.hand hh (by rw [e, e3])) e2
theorem WordsV.new {H : Hp} {v : V} {o : Option (List Str)} {p : Addr} (x : WordsV H v o) (n : H p = none) : v ≠ .ref p := by
  intro e
  subst e
  cases o with
  | none => cases (show V.ref p = V.non from x)
  | some ws =>
    obtain ⟨p, e, e2⟩ := x
    cases e
    rw [n] at e2
    cases e2
theorem WordsV.chg {H H' : Hp} {v : V} {o : Option (List Str)} {p : Addr} (x : WordsV H v o) (c : Chg p H H') (n : v ≠ .ref p) : WordsV H' v o :=
  x.at fun q ob e e2 => c.at e2 fun e3 => n (by rw [e, e3])
theorem NewWords.w {H H' : Hp} {v : V} {o : Option (List Str)} (x : NewWords H H' v o) : WordsV H' v o := by
  cases o with
  | none => exact x
  | some ws =>
    obtain ⟨p, h1, _, h2⟩ := x
    exact ⟨p, h1, h2⟩
theorem bools_dp {K : PySem.W.Frag} {H : Hp} {p : Addr} {a b : Bool} (e : H p = some (.lst [.bl a, .bl b])) : Dp K H (.ref p) (.list [.bool a, .bool b]) := .lst (lst_of e) (.cons (.bl a) (.cons (.bl b) .nil))
section
variable {P : Program} {w : World} {K : PySem.W.Frag} {mg : Str → Option Value} {base : Heap}
theorem ok_law (T : Tx K mg) {f : Addr} {fd : FuncData} (F : FunD K "law" "law" (defArgs s_law) (defBody s_law) (defScope s_law) [] [] f fd) : FnOk P w K mg base CX0 4 f fd ["script"] (spLaw K) := by
  refine fn_of2 (N := n_law) F sc_law (fun vs H Q E h => ?_) (fun f cdv A outer s H vs Q E hr h => ?_)
  · obtain ⟨a, ns, rfl, _⟩ := h
    rfl
  · obtain ⟨a, ns, rfl, hS, hl, q⟩ := h
    refine ⟨_, (pss_cons (ps_asg (pe_lst (pa_cons (C8.pe_c (k_law_draws T) hr (by first | decide | omega) (by rfl) (pa_cons (pv 0) (pa_cons pe_int pa_nil))) (pa_cons pe_int pa_nil))) (pg_name (i := 1) sc_law.nd rfl (Or.inl rfl))) (pss_cons (ps_asg (pe_lst pa_nil) (pg_name (i := 2) sc_law.nd rfl (Or.inl rfl))) (pss_cons (ps_for PassesOwn.never rfl (pi_range1 (by rfl) T.z_range (pa_cons (C8.pe_c (k_law_take T) hr (by first | decide | omega) (by rfl) (pa_cons (pv 1) (pa_cons pe_int pa_nil))) pa_nil)) (pg_name (i := 3) sc_law.nd rfl (Or.inl rfl)) (pss_one (ps_expr (pe_bm PySem.F.plainAttrs_list PySem.F.slot_list_append PySem.F.type_list_append mt_append (pv 2) (pa_cons (C8.pe_c (k_law_piece T) hr (by first | decide | omega) (by rfl) (pa_cons (pv 1) pa_nil)) pa_nil) : PE _ _ (tBM K _ _ _ _))))) (pss_cons (ps_asg (pe_join2 pe_str (pv 2) : PE _ _ (tM1 (rJoin K) _ _)) (pg_name (i := 4) sc_law.nd rfl (Or.inl rfl))) (pss_cons (ps_asg (C8.pe_c (k_law_words T) hr (by first | decide | omega) (by rfl) (pa_cons (pv 4) pa_nil)) (pg_name (i := 5) sc_law.nd rfl (Or.inl rfl))) (pss_cons (ps_asg (C8.pe_c (k_split_row T) hr (by first | decide | omega) (by rfl) (pa_cons (pv 4) pa_nil)) (pg_name (i := 6) sc_law.nd rfl (Or.inl rfl))) (pss_cons (ps_if (pt_not (pt_tr (C8.pe_c (k_law_is_right T) hr (by first | decide | omega) (by rfl) (pa_cons (pv 6) (pa_cons (pv 5) pa_nil))) : PT _ _ (tTr K _))) (pss_one (ps_ret pe_bl)) pss_nil) (pss_cons (ps_asg (pe_lst (pa_cons (pv 4) (pa_cons pe_str (pa_cons (pe_ix (ix_seq : IxR _ (rIx K)) (pe_c0 (k_law_reserved T) hr (by first | decide | omega) (by rfl)) (C8.pe_c (k_law_take T) hr (by first | decide | omega) (by rfl) (pa_cons (pv 1) (pa_cons pe_int pa_nil))) (fun _ _ => rfl)) (pa_cons (C8.pe_c (k_law_piece T) hr (by first | decide | omega) (by rfl) (pa_cons (pv 1) pa_nil)) (pa_cons (pe_op op_add3 (C8.pe_c (k_law_piece T) hr (by first | decide | omega) (by rfl) (pa_cons (pv 1) pa_nil)) (C8.pe_c (k_law_piece T) hr (by first | decide | omega) (by rfl) (pa_cons (pv 1) pa_nil))) pa_nil)))))) (pg_name (i := 7) sc_law.nd rfl (Or.inl rfl))) (pss_cons (ps_expr (pe_bm PySem.F.plainAttrs_list PySem.F.slot_list_append PySem.F.type_list_append mt_append (pv 7) (pa_cons (pe_ix (ix_seq : IxR _ (rIx K)) (pe_lst (pa_cons pe_str (pa_cons pe_str (pa_cons pe_str (pa_cons pe_str (pa_cons pe_str (pa_cons pe_str (pa_cons pe_str pa_nil)))))))) (C8.pe_c (k_law_take T) hr (by first | decide | omega) (by rfl) (pa_cons (pv 1) (pa_cons pe_int pa_nil))) (fun _ _ => rfl)) pa_nil) : PE _ _ (tBM K _ _ _ _))) (C8.pss_cut (ps_if (pt_cmpR op_ntN2 (pv 5) pe_non (nomark _)) (pss_cons (ps_expr (pe_bm PySem.F.plainAttrs_list PySem.F.slot_list_append PySem.F.type_list_append mt_append (pv 6) (pa_cons pe_str pa_nil) : PE _ _ (tBM K _ _ _ _))) (pss_one (ps_asg (pe_op op_add3 (pv 7) (pv 5)) (pg_name (i := 7) sc_law.nd rfl (Or.inl rfl))))) pss_nil) (pss_cons (ps_for PassesOwn.never rfl (pi_list (pe_lst (pa_cons (pv 4) (pa_cons (pe_op op_add3 (pe_op op_add3 (pe_op op_mul2 pe_str (C8.pe_c (k_law_take T) hr (by first | decide | omega) (by rfl) (pa_cons (pv 1) (pa_cons pe_int pa_nil)))) (pv 4)) pe_str) pa_nil))) : PI _ _ _ (iList K _)) (pg_name (i := 8) sc_law.nd rfl (Or.inl rfl)) (pss_one (ps_if (pt_not (pt_tr (C8.pe_c (k_law_is_right T) hr (by first | decide | omega) (by rfl) (pa_cons (C8.pe_c (k_split_row T) hr (by first | decide | omega) (by rfl) (pa_cons (pv 8) pa_nil)) (pa_cons (pv 5) pa_nil))) : PT _ _ (tTr K _))) (pss_one (ps_ret pe_bl)) pss_nil))) (pss_cons (ps_for PassesOwn.never rfl (pi_list (pv 7) : PI _ _ _ (iList K _)) (pg_name (i := 9) sc_law.nd rfl (Or.inl rfl)) (pss_cons (ps_asg (pe_lst (pa_cons (C8.pe_c (k_is_name T) hr (by first | decide | omega) (by rfl) (pa_cons (pv 9) pa_nil)) (pa_cons (C8.pe_c (k_is_number T) hr (by first | decide | omega) (by rfl) (pa_cons (pv 9) pa_nil)) pa_nil))) (pg_name (i := 10) sc_law.nd rfl (Or.inl rfl))) (pss_cons (ps_if (PW.pt (pw_or (pt_not (pt_tr (pe_callB (call_isi : CallR _ _ (rIsi K)) (by rfl) T.z_isinstance (by decide +kernel) (pa_cons (pe_ix (ix_seq : IxR _ (rIx K)) (pv 10) pe_int (fun _ _ => rfl)) (pa_cons (pe_bltn (v := .ty "bool") (by rfl) T.z_bool (by decide +kernel) rfl) pa_nil))) : PT _ _ (tTr K _))) (pw_or1 (pt_not (pt_tr (pe_callB (call_isi : CallR _ _ (rIsi K)) (by rfl) T.z_isinstance (by decide +kernel) (pa_cons (pe_ix (ix_seq : IxR _ (rIx K)) (pv 10) pe_int (fun _ _ => rfl)) (pa_cons (pe_bltn (v := .ty "bool") (by rfl) T.z_bool (by decide +kernel) rfl) pa_nil))) : PT _ _ (tTr K _)))))) (pss_one (ps_ret pe_bl)) pss_nil) (pss_one (ps_if (pt_cmpR (op_ne2 hr.units : OpR _ _ (rNe2 K)) (pv 10) (pe_lst (pa_cons (C8.pe_c (k_law_is_name T) hr (by first | decide | omega) (by rfl) (pa_cons (pv 9) pa_nil)) (pa_cons (C8.pe_c (k_law_is_number T) hr (by first | decide | omega) (by rfl) (pa_cons (pv 9) pa_nil)) pa_nil))) (nomark _)) (pss_one (ps_ret pe_bl)) pss_nil))))) (pss_one (ps_ret pe_bl)))))))))))))), ?_⟩
    walk_at "ss"
    refine ⟨a, ns, 160, rfl, hS, hl, by omega, by omega, fun d H1 ds s1 nd e1 => ?_⟩
    walk_at "ss"
    refine n_obj (lz (by simp)) fun h H2 nh s2 e2 => ?_
    have hh2 : HandAt H2 h d := ⟨0, ds, e2, Int.le_refl 0, s2 _ _ e1⟩
    walk_at "ss"
    refine n_obj (lz (by simp)) fun pp H3 np s3 e3 => ?_
    have hh3 := hh2.same s3
    have nn := hh2.new np
    walk_at "ss"
    refine ⟨h, d, 16, rfl, hh3, by omega, fun r H4 r0 r1 c4 hh4 => ?_⟩
    walk_at "ss"
    refine k_r1 (by omega) (by omega) ?_
    refine f_range (fun i σ H' => HandAt H' h d ∧ ∃ (acc : List Str) (x : Option V), acc.length = i ∧ (∀ y ∈ acc, y.length ≤ 20) ∧ H' pp = some (.lst (acc.map V.str)) ∧ σ = [some (.ref a), some (.ref h), some (.ref pp), x, none, none, none, none, none, none, none])
      ⟨hh4, [], _, rfl, by simp, c4.at e3 nn.1.symm, rfl⟩ (fun i σ H5 hi hW => ?_) (fun σ H5 hW => ?_)
    · obtain ⟨hh5, acc, x, la, ha, e5, rfl⟩ := hW
      walk_at "ss"
      refine m_ty (lst_of e5) ?_
      walk_at "ss"
      refine ⟨h, d, rfl, hh5, fun y H6 ly k6 hh6 => ?_⟩
      walk_at "ss"
      refine m_app (k6.at e5 nn.1.symm) (by rw [List.length_map, la]; exact small1000 (by omega)) fun H7 c7 e7 => ⟨hh6.chg c7 nn.1 nn.2, acc ++ [y], _, by rw [List.length_append, la]; rfl, fun z hz => ?_, by rw [e7, List.map_append]; rfl, rfl⟩
      rcases List.mem_append.mp hz with hz | hz
      · exact ha z hz
      · rw [show z = y by simpa using hz]
        exact ly
    · obtain ⟨hh5, acc, x, la, ha, e5, rfl⟩ := hW
      have hs : (acc.map (·.length)).sum ≤ 20 * acc.length := by
        clear e5 la
        induction acc with
        | nil => exact Nat.le_refl _
        | cons x r ih =>
          rw [List.map_cons, List.sum_cons, List.length_cons]
          have h1 := ih (fun y hy => ha y (List.mem_cons_of_mem _ hy))
          have h2 := ha x List.mem_cons_self
          omega
      walk_at "ss"
      refine m_join (lst_of e5) (by show _ + _ * 0 ≤ _; omega) ?_
      have lt : (Txt.join (Str.ofString "") acc).length ≤ 320 := by
        rw [str_len, join_empty, List.length_flatten, List.map_map]
        have e6 : (acc.map (List.length ∘ fun y : Str => y.cps.toList)).sum = (acc.map (·.length)).sum := congrArg List.sum (List.map_congr_left fun y _ => (str_len y).symm)
        rw [e6]
        omega
      generalize Txt.join (Str.ofString "") acc = z at lt
      walk_at "ss"
      refine ⟨z, rfl, by omega, fun ve H6 s6 w6 => ?_⟩
      walk_at "ss"
      refine ⟨z, rfl, by omega, fun vf H7 s7 w7 => ?_⟩
      have we := w6.w.same s7
      have wf := w7.w
      have nfe : ∀ p, vf = .ref p → ve ≠ .ref p := fun p e => by
        cases eo : wordsOf z with
        | none =>
          rw [eo] at w7
          rw [show vf = .non from w7] at e
          cases e
        | some ws =>
          rw [eo] at w7
          obtain ⟨p', e', n', _⟩ := w7
          rw [e'] at e
          cases e
          exact w6.w.new n'
      have nfd : ∀ p, vf = .ref p → d ≠ p := fun p e => by
        cases eo : wordsOf z with
        | none =>
          rw [eo] at w7
          rw [show vf = .non from w7] at e
          cases e
        | some ws =>
          rw [eo] at w7
          obtain ⟨p', e', n', _⟩ := w7
          rw [e'] at e
          cases e
          exact ((hh5.same s6).new n').2
      have small : ∀ ws, wordsOf z = some ws → ws.length ≤ 1000000 := fun ws e => by
        have := (wordsOf_small e).1
        omega
      have hh7 := (hh5.same s6).same s7
      have e7 := s7 _ _ (s6 _ _ e5)
      walk_at "ss"
      refine ⟨vf, ve, wordsOf z, rfl, wf, we, small, ?_⟩
      walk_at "ss"
      refine iteF ?_
      walk_at "ss"
      refine ⟨rfl, fun p8 H8 s8 n8 e8 => ?_⟩
      have nn8 := hh7.new n8
      walk_at "ss"
      refine ⟨h, d, 27, rfl, hh7.same s8, by omega, fun r H9 r2 r3 c9 hh9 => ?_⟩
      obtain ⟨j, hj⟩ : ∃ j : Nat, r = (j : Int) := ⟨r.toNat, by omega⟩
      subst hj
      obtain ⟨y1, g, ly1⟩ := item_str (c_RESERVED) (m := 12) (by decide +kernel) (j := j) (show j < 27 by omega)
      refine o_ixL (lst_of (c9.at e8 nn8.1.symm)) (atI_nat g) ?_
      have we9 := (we.same s8).keep (hh7.same s8) c9.keep
      have wf9 := (wf.same s8).keep (hh7.same s8) c9.keep
      walk_at "ss"
      refine ⟨h, d, rfl, hh9, fun y2 H10 ly2 k10 hh10 => ?_⟩
      have we10 := we9.keep hh9 k10
      have wf10 := wf9.keep hh9 k10
      walk_at "ss"
      refine ⟨h, d, rfl, hh10, fun y3 H11 ly3 k11 hh11 => ?_⟩
      have we11 := we10.keep hh10 k11
      have wf11 := wf10.keep hh10 k11
      walk_at "ss"
      refine ⟨h, d, rfl, hh11, fun y4 H12 ly4 k12 hh12 => ?_⟩
      have we12 := we11.keep hh11 k12
      have wf12 := wf11.keep hh11 k12
      refine o_addS (Nat.le_of_lt (small1000 (by omega))) ?_
      walk_at "ss"
      refine n_obj (lz (by simp)) fun q1 H13 n13 s13 e13 => ?_
      have we13 := we12.same s13
      have wf13 := wf12.same s13
      have hh13 := hh12.same s13
      have nh13 := hh12.new n13
      have nw13 := we12.new n13
      have nf13 := wf12.new n13
      walk_at "ss"
      refine m_ty (lst_of e13) ?_
      walk_at "ss"
      refine n_obj (lz (by simp)) fun q2 H14 n14 s14 e14 => ?_
      have nh14 := hh13.new n14
      walk_at "ss"
      refine ⟨h, d, 7, rfl, hh13.same s14, by omega, fun r H15 r2 r3 c15 hh15 => ?_⟩
      obtain ⟨j2, hj2⟩ : ∃ j : Nat, r = (j : Int) := ⟨r.toNat, by omega⟩
      subst hj2
      obtain ⟨y5, g5, ly5⟩ := item_str ([.str "0", .str "00", .str "01", .str "1234567890", .str "12345678901", .str "abcdefghijkl", .str "abcdefghijklm"]) (m := 13) (by decide +kernel) (j := j2) (show j2 < 7 by omega)
      refine o_ixL (lst_of (c15.at e14 nh14.1.symm)) (atI_nat g5) ?_
      have e15 := c15.at (s14 _ _ e13) nh13.1.symm
      have we15 := (we13.same s14).keep (hh13.same s14) c15.keep
      have wf15 := (wf13.same s14).keep (hh13.same s14) c15.keep
      walk_at "ss"
      refine m_app e15 (small1000 (by simp)) fun H16 c16 e16 => ?_
      have we16 := we15.chg c16 nw13
      have wf16 := wf15.chg c16 nf13
      have hh16 := hh15.chg c16 nh13.1 nh13.2
      obtain ⟨os, e17, los⟩ : ∃ os : List Str, H16 q1 = some (.lst (os.map V.str)) ∧ os.length ≤ 10 ∧ ∀ y ∈ os, y.length ≤ 1000 := by
        refine ⟨[z, "", y1, y2, y3 ++ y4, y5], e16, by simp, fun y hy => ?_⟩
        simp only [List.mem_cons, List.not_mem_nil, or_false] at hy
        rcases hy with rfl | rfl | rfl | rfl | rfl | rfl
        · omega
        · show 0 ≤ _
          omega
        · omega
        · omega
        · rw [app_len]
          omega
        · omega
      clear e16 e15
      obtain ⟨los, los2⟩ := los
      walk_at "ss"
      refine s_cut (fun σ H' => HandAt H' h d ∧ WordsV H' ve (wordsOf z) ∧ ∃ (q3 : Addr) (os : List Str) (x : Option V), H' q3 = some (.lst (os.map V.str)) ∧ (∀ y ∈ os, y.length ≤ 1000) ∧ σ = [some (.ref a), some (.ref h), some (.ref pp), x, some (.str z), some ve, some vf, some (.ref q3), none, none, none]) ?_ (fun σ' H' hM => ?_)
      · walk_at "ss"
        cases eo : wordsOf z with
        | none =>
          rw [eo] at we16
          obtain rfl : ve = .non := we16
          refine iteF ?_
          walk_at "ss"
          exact ⟨hh16, rfl, q1, os, _, e17, los2, rfl⟩
        | some ws =>
          rw [eo] at we16 wf16
          obtain ⟨pe, rfl, ee⟩ := we16
          obtain ⟨pf, rfl, ef⟩ := wf16
          have npf : pe ≠ pf := fun e => nfe pf rfl (by rw [e])
          have nph : h ≠ pf := fun e => WordsV.hand (o := some ws) ⟨pf, rfl, ef⟩ hh16 (by rw [e])
          have npd : d ≠ pf := nfd pf rfl
          have nq : q1 ≠ pf := fun e => nf13 (by rw [e])
          refine iteT ?_
          walk_at "ss"
          refine m_ty (lst_of ef) ?_
          walk_at "ss"
          have lw := wordsOf_small eo
          refine m_app ef (by rw [List.length_map]; exact small1000 (by omega)) fun H17 c17 e18 => ?_
          walk_at "ss"
          refine o_addL (c17.at e17 nq) (c17.at ee npf) (by rw [List.length_map, List.length_map]; exact Nat.le_of_lt (small1000 (by omega))) fun q3 H18 n18 s18 e19 => ?_
          walk_at "ss"
          refine ⟨(hh16.chg c17 nph npd).same s18, ⟨pe, rfl, s18 _ _ (c17.at ee npf)⟩, q3, os ++ ws, _, by rw [e19, List.map_append], fun y hy => ?_, rfl⟩
          rcases List.mem_append.mp hy with hy | hy
          · exact los2 y hy
          · have := lw.2 y hy
            omega
      · obtain ⟨hh, we, q3, os, x, e3, los, rfl⟩ := hM
        walk_at "ss"
        refine ⟨h, d, 9, rfl, hh, by omega, fun r H17 r2 r3 c17 hh17 => ?_⟩
        have we17 := we.keep hh c17.keep
        have q3h : q3 ≠ h := fun e => by
          subst e
          obtain ⟨n, ds', h1, _, _⟩ := hh
          rw [h1] at e3
          cases os <;> cases e3
        have e17 := c17.at e3 q3h
        refine o_mulS r2 (by omega) (by decide +kernel) ?_
        walk_at "ss"
        have lr : (repS (Str.ofString " ") r).length ≤ 9 := by
          rw [repS_len]
          show _ * 1 ≤ _
          omega
        refine o_addS (Nat.le_of_lt (small1000 (by omega))) ?_
        walk_at "ss"
        have ly : (repS (Str.ofString " ") r ++ z ++ Str.ofString "  ").length ≤ 1000 := by
          rw [app_len, app_len]
          show _ + 2 ≤ _
          omega
        refine o_addS (Nat.le_of_lt (small1000 (by rw [app_len]; show _ + 2 ≤ _; omega))) ?_
        walk_at "ss"
        have wy : wordsOf (repS (Str.ofString " ") r ++ z ++ Str.ofString "  ") = wordsOf z := (around_mk z r).words
        generalize repS (Str.ofString " ") r ++ z ++ Str.ofString "  " = y at ly wy
        refine n_obj (lz (by simp)) fun r1 H18 n18 s18 e18 => ?_
        refine k_l (lst_of e18) ?_
        have we18 := we17.same s18
        refine f_list (xs := [.str z, .str y]) (fun i σ H' => Same H18 H' ∧ ∃ x, σ = [some (.ref a), some (.ref h), some (.ref pp), _, some (.str z), some ve, some vf, some (.ref q3), x, none, none]) ⟨Same.refl _, _, rfl⟩ (fun i σ H' hi p => p.1.seq (lst_of e18)) (fun i x σ H' hx p => ?_) (fun σ H' p => ?_)
        · obtain ⟨s19, x8, rfl⟩ := p
          obtain ⟨u, rfl, lu, wu⟩ : ∃ u, x = .str u ∧ u.length ≤ 1000000 ∧ wordsOf u = wordsOf z := by
            rcases List.mem_cons.mp (List.mem_of_getElem? hx) with rfl | hx
            · exact ⟨z, rfl, by omega, rfl⟩
            · rw [List.mem_singleton.mp hx]
              exact ⟨y, rfl, by omega, wy⟩
          walk_at "ss"
          refine ⟨u, rfl, lu, fun v H20 s20 w20 => ?_⟩
          rw [wu] at w20
          walk_at "ss"
          refine ⟨v, ve, wordsOf z, rfl, w20.w, (we18.same s19).same s20, small, ?_⟩
          walk_at "ss"
          refine iteF ?_
          walk_at "ss"
          exact ⟨s19.trans s20, _, rfl⟩
        · obtain ⟨s19, x8, rfl⟩ := p
          have e19 := s19 _ _ (s18 _ _ e17)
          walk_at "ss"
          refine k_l (lst_of e19) ?_
          refine f_list (xs := os.map V.str) (fun i σ H2 => Same H' H2 ∧ ∃ x9 x10, σ = [some (.ref a), some (.ref h), some (.ref pp), _, some (.str z), some ve, some vf, some (.ref q3), _, x9, x10]) ⟨Same.refl _, _, _, rfl⟩ (fun i σ H2 hi p => p.1.seq (lst_of e19)) (fun i x σ H2 hx p => ?_) (fun σ H2 p => ?_)
          · obtain ⟨s21, x9, x10, rfl⟩ := p
            obtain ⟨u, rfl, lu⟩ : ∃ u, x = .str u ∧ u.length ≤ 1000000 := by
              obtain ⟨u, hu, rfl⟩ := List.mem_map.mp (List.mem_of_getElem? hx)
              have := los u hu
              exact ⟨u, rfl, by omega⟩
            walk_at "ss"
            refine ⟨u, rfl, lu, fun H3 t3 => ?_⟩
            walk_at "ss"
            refine ⟨u, rfl, lu, fun H4 t4 => ?_⟩
            walk_at "ss"
            refine n_obj (lz (by simp)) fun r2 H5 n5 t5 f5 => ?_
            walk_at "ss"
            refine o_ixL (lst_of f5) (atI_nat (j := 0) rfl) ?_
            walk_at "ss"
            refine b_isi (.base (.bl _)) (b := true) (kit_ty (by decide +kernel)) ?_
            walk_at "ss"
            refine iteF ?_
            walk_at "ss"
            refine o_ixL (lst_of f5) (atI_nat (j := 1) rfl) ?_
            walk_at "ss"
            refine b_isi (.base (.bl _)) (b := true) (kit_ty (by decide +kernel)) ?_
            walk_at "ss"
            refine iteF ?_
            walk_at "ss"
            refine ⟨u, rfl, lu, fun H6 t6 => ?_⟩
            walk_at "ss"
            refine ⟨u, rfl, lu, fun H7 t7 => ?_⟩
            walk_at "ss"
            refine n_obj (lz (by simp)) fun r3 H8 n8 t8 f8 => ?_
            have f6 := t8 _ _ (t7 _ _ (t6 _ _ f5))
            refine o_neD (bools_dp f6) (bools_dp f8) rfl rfl ?_
            walk_at "ss"
            have ev : PyData.eqv (.list [.bool (nameW u), .bool (numberW u)]) (.list [.bool (nameW u), .bool (numberW u)]) = true := by
              cases nameW u <;> cases numberW u <;> rfl
            rw [ev]
            refine iteF ?_
            walk_at "ss"
            exact ⟨(((((s21.trans t3).trans t4).trans t5).trans t6).trans t7).trans t8, _, _, rfl⟩
          · obtain ⟨s21, x9, x10, rfl⟩ := p
            walk_at "ss"
            exact q _
end
end K01
open PySem PySem.W PySem.Calls PyProof.Rows
set_option maxHeartbeats 0 in
theorem PySem.Challenge.cw_wayorring_k01_words_of_a_row_holds : PySem.Challenge.rw_wayorring_k01_words_of_a_row.Holds := by
  w_on; o_law
  refine HandSHeadRun.head_any (r := OpenLaw.row PySem.Challenge.rw_wayorring_k01_words_of_a_row) (q := view (OpenLaw.row PySem.Challenge.rw_wayorring_k01_words_of_a_row).prog [26]) (H := K01.hk) (ob := K01.ob) (M := 20000) (loose := K01.loose) (d := HandSHeadRun.topDef (OpenLaw.row PySem.Challenge.rw_wayorring_k01_words_of_a_row).prog 26) (kwd := []) K01.ob_eq
    (by kernel_rfl) (fun s => by kernel_rfl) K01.run (by kernel_rfl) (by kernel_rfl) (by kernel_rfl) (by rfl) (by first | assumption | decide +kernel) (by decide +kernel) ⟨rfl, rfl, rfl, rfl, rfl, by decide +kernel⟩ ?hw ?hc
  case hw => w_witness2
  case hc =>
    refine L2.walk_ofE (l := PySem.Challenge.rw_wayorring_k01_words_of_a_row) (n := 63) (k := 4) (x := "script") (CX := L2.CX0) rfl (by decide) (by kernel_rfl) ⟨rfl, by decide, by decide⟩ ?F (fun _ _ _ _ z => z)
    intro w mg fa h Y G hmg0
    obtain ⟨K, KX, c⟩ := Y
    have hmg : mg ("law" : PySem.Str) = some (.ref fa) := by
      have e : (HandSHeadRun.topDef (OpenLaw.row PySem.Challenge.rw_wayorring_k01_words_of_a_row).prog 26).name = ("law" : PySem.Str) := by kernel_rfl
      rw [← e]
      exact hmg0
    have T := K01.tx_of KX G c
    obtain ⟨f, fd, F, e2⟩ := T.d_law.ex
    have e3 := hmg.symm.trans e2
    cases e3
    exact ⟨K, fd, K01.spLaw K, KX, fun s v => L2.FunD.bindsA (ps := ["script"]) F (fun _ _ _ _ _ _ us hl => match us, hl with | [_], _ => rfl) s [v] rfl, fun H a ns hl _ hS => ⟨a, ns, rfl, hS, hl, fun _ => rfl⟩, fun base _ _ => K01.ok_law T F⟩

