import PyProof.Rows.All
import Wide.All
import OpenK.AllK
import Wide.FinOn
import KE.KStateDown
import HandS.ForMost
import HandS.IsInst
import HandS.Codes
import HandS.Exc
import HandS.Defaults
import HandS.Head0
import HandS.Head1
import HandS.Head2
import HandS.HeadEnd
import HandS.HeadHook1
import HandS.HeadHook2
import HandS.HeadHook3
import HandS.HeadHook4
import HandS.FStr
import HandS.Dict
import HandS.More
import Wide.Once
import HandS.Conv
import HandS.Wide
import HandS.Style
import HandS.Star
import HandS.TupAny
import PyProof.ReprRoads
import PyProof.ReprLen
import PyProof.P3Eq
import PySem.Challenge.RW_wayorring_k15_no_values_keep_a_ring
set_option Elab.async false
set_option linter.all false
set_option maxRecDepth 100000
set_option maxHeartbeats 8000000
/-! Wy: rules that take operands of several kinds, and steps. -/
namespace Wy
open PySem PySem.Spec PyProof.Rows L2
section
variable {X : Cx}
theorem CallR.or {f : Value} {r r' : List V → Hp → VK → Prop} (h : CallR X f r) (h' : CallR X f r') : CallR X f (fun xs H Q => r xs H Q ∨ r' xs H Q) := by
  intro pins s σ H xs us Q I rv q
  rcases q with q | q
  · exact h pins s σ H xs us Q I rv q
  · exact h' pins s σ H xs us Q I rv q
/-- k times a text -/
def repS (z : Str) (k : Int) : Str := ⟨(List.replicate k.toNat z.cps.toList).flatten.toArray⟩
theorem foldl_rep (a : Array Nat) : ∀ (n : Nat) (acc : Array Nat), ((List.replicate n a).foldl (· ++ ·) acc) = (acc.toList ++ (List.replicate n a.toList).flatten).toArray
  | 0, acc => by simp
  | n + 1, acc => by
    rw [List.replicate_succ, List.foldl_cons, foldl_rep a n, List.replicate_succ, List.flatten_cons]
    simp
theorem repS_eq (z : Str) (n : Int) : (⟨(List.replicate n.toNat z.cps).foldl (· ++ ·) #[]⟩ : Str) = repS z n := by
  unfold repS
  rw [foldl_rep]
  simp
def rMulSI : R2 := fun x y H Q => ∃ z k, x = .str z ∧ y = .int k ∧ 0 ≤ k ∧ k ≤ 1000 ∧ z.length ≤ 1000 ∧ Q (.str (repS z k)) H
theorem op_mulSI : OpR X (binaryOp .Mult) rMulSI := by
  intro pins s σ H x y v u Q I rx ry h
  obtain ⟨z, k, rfl, rfl, h0, h1, h2, q⟩ := h
  obtain ⟨t, rfl⟩ := rx
  obtain ⟨t', rfl⟩ := ry
  have hs : sizeLine = 16777216 := sizeLine_eq
  refine PySem.P.mul_str ?_ (fun a b => ?_) (fun a b => ?_) ?_
  · rw [decide_eq_false (by omega), decide_eq_false (by omega)]
    rfl
  · have h3 : (1000 : Int) ≤ (2 ^ 63 - 1) / k := (Int.le_ediv_iff_mul_le (by omega)).mpr (by omega)
    omega
  · unfold Builtin.Str.tooLong
    rw [decide_eq_false_iff_not]
    have h4 : z.length * k.toNat ≤ 1000 * 1000 := Nat.mul_le_mul h2 (by omega)
    omega
  · by_cases a : k < 1
    · have ek : k = 0 := by omega
      subst ek
      rw [if_pos a]
      have e : repS z 0 = Str.empty := rfl
      rw [e] at q
      exact ⟨by decide, .str Str.empty, H, I.tok _, ⟨_, rfl⟩, q⟩
    · rw [if_neg a]
      by_cases b : (k == 1 || z.length == 0) = true
      · rw [if_pos b]
        have e : repS z k = z := by
          rcases Bool.or_eq_true_iff.mp b with b | b
          · have e1 : k = 1 := by simpa using b
            subst e1
            unfold repS
            simp
          · have e1 : z.length = 0 := by simpa using b
            have e2 : z.cps = #[] := by simpa [Str.length] using e1
            obtain ⟨c⟩ := z
            unfold repS
            simp at e2
            subst e2
            simp
        rw [e] at q
        exact ⟨.str z, H, I, ⟨_, rfl⟩, q⟩
      · rw [if_neg b, repS_eq]
        refine ⟨?_, .str (repS z k), H, I.tok _, ⟨_, rfl⟩, q⟩
        have h4 : (repS z k).length = k.toNat * z.length := by
          unfold repS
          simp [Str.length, List.length_flatten, List.map_replicate, List.sum_replicate_nat]
        rw [h4]
        have h5 : k.toNat * z.length ≤ 1000 * 1000 := Nat.mul_le_mul (by omega) h2
        omega
/-- + of two ints, two texts, two lists -/
def rAddS : R2 := fun x y H Q => ∃ i j, x = .str i ∧ y = .str j ∧ i.length + j.length ≤ sizeLine ∧ Q (.str (i ++ j)) H
def rAddI : R2 := rI0 fun i j => .int (i + j)
def rAdd3 : R2 := fun x y H Q => rAddI x y H Q ∨ rAddS x y H Q ∨ rCat x y H Q
theorem op_add3 : OpR X (binaryOp .Add) rAdd3 := op_add.or (op_add_str.or op_cat)
def rMul2 : R2 := fun x y H Q => rI CMul (fun i j => .int (i * j)) x y H Q ∨ rMulSI x y H Q
theorem op_mul2 : OpR X (binaryOp .Mult) rMul2 := op_mul.or op_mulSI
/-- == -/
def rEq2 (K : PySem.W.Frag) : R2 := fun x y H Q => rEq x y H Q ∨ rEqD K x y H Q
theorem op_eq2 (hu : X.A.units + 64 < cLine) : OpR X (compareOp .Eq) (rEq2 X.K) := op_eq.or (op_eqD hu)
def rNe2 (K : PySem.W.Frag) : R2 := fun x y H Q => rNe x y H Q ∨ rNeD K x y H Q
theorem op_ne2 (hu : X.A.units + 64 < cLine) : OpR X (compareOp .NotEq) (rNe2 X.K) := op_ne.or (op_neD hu)
/-- in: a sign in a text; a flat item in a list or tuple -/
def rInS : R2 := fun x y H Q => ∃ (c : Nat) (z : Str), x = .str ⟨#[c]⟩ ∧ y = .str z ∧ Q (.bl (decide (c ∈ z.cps.toList))) H
def rNiS : R2 := fun x y H Q => ∃ (c : Nat) (z : Str), x = .str ⟨#[c]⟩ ∧ y = .str z ∧ Q (.bl (!decide (c ∈ z.cps.toList))) H
def rIn2 (K : PySem.W.Frag) : R2 := fun x y H Q => rInS x y H Q ∨ rIn K false x y H Q
def rNi2 (K : PySem.W.Frag) : R2 := fun x y H Q => rNiS x y H Q ∨ rIn K true x y H Q
theorem op_in2 : OpR X (compareOp .In) (rIn2 X.K) := op_in_sign.or op_in_seq
theorem op_ni2 : OpR X (compareOp .NotIn) (rNi2 X.K) := op_notIn_sign.or op_notIn_seq
def rSl2 (K : PySem.W.Frag) : V → Option Int → Option Int → Hp → VK → Prop := fun x lo hi H Q => rSlS x lo hi H Q ∨ rSlL K x lo hi H Q
theorem sl_2 : SlR X (rSl2 X.K) := sl_str.or sl_list
def rInt : List V → Hp → VK → Prop := fun xs H Q => ((∃ i, xs = [.int i] ∧ Q (.int i) H) ∨ ∃ k, xs = [.bl k] ∧ Q (.int (if k then 1 else 0)) H) ∨ ∃ a n, xs = [.str a] ∧ PySem.intText? a = some n ∧ a.length ≤ 640 ∧ Q (.int n) H
theorem call_int2 : CallR X (.type "int") rInt := CallR.or call_int1 call_int_str
def rAbs : List V → Hp → VK → Prop := fun xs H Q => ∃ i, xs = [.int i] ∧ Q (.int (if i < 0 then -i else i)) H
theorem call_abs2 : CallR X (.builtin "abs") rAbs := call_abs
def rLn (K : PySem.W.Frag) : List V → Hp → VK → Prop := fun xs H Q => ∃ x n, xs = [x] ∧ LenV K x H n ∧ Q (.int n) H
theorem call_len2 : CallR X (.builtin "len") (rLn X.K) := call_len
def tTr (K : PySem.W.Frag) (ta : TE) : TT := fun σ H Q => ta σ H fun x H' => ∃ k, TruV K x H' k ∧ Q k H'
theorem pt_tr {e : Expr} {te : TE} (h : PE X e te) (he : ∀ whole, isTrue e X.env whole = (do let v ← whole; standAt e.pos; holding [v] (truthy v)) := by intro _; rfl) : PT X e (tTr X.K te) := pt_truth h he
end

/-! ### what a heap keeps -/
/-- only at l -/
def Chg (l : Addr) (H H' : Hp) : Prop := ∀ b, b ≠ l → H' b = H b
theorem same_new {H : Hp} {p : Addr} {o : HO} (h : H p = none) : Same H (upd H p o) := fun b x e => by
  rw [upd_ne (ne_of_none e h)]
  exact e
theorem chg_upd {H : Hp} {p : Addr} {o : HO} : Chg p H (upd H p o) := fun b e => by rw [upd_ne e]
theorem Chg.same {l : Addr} {H0 H H' : Hp} (c : Chg l H H') (s : Same H0 H) (n : H0 l = none) : Same H0 H' := fun b o e => by
  rw [c b (ne_of_none e n)]
  exact s b o e
theorem Chg.at {l b : Addr} {H H' : Hp} {o : HO} (c : Chg l H H') (e : H b = some o) (n : b ≠ l) : H' b = some o := by
  rw [c b n]
  exact e
theorem new_same {H : Hp} {o : HO} {Q : VK} (h : ∀ p H2, H p = none → Same H H2 → H2 p = some o → Q (.ref p) H2) : ∀ p, H p = none → Q (.ref p) (upd H p o) :=
  fun p np => h p _ np (same_new np) upd_same
theorem lst_of {K : PySem.W.Frag} {H : Hp} {a : Addr} {xs : List V} (h : H a = some (.lst xs)) : SqL K H a xs := .inl (.inl h)
theorem tup_of {K : PySem.W.Frag} {H : Hp} {a : Addr} {xs : List V} (h : H a = some (.tup xs)) : SqT K H a xs := .inl (.inl h)
theorem seqT {K : PySem.W.Frag} {H H' : Hp} {a : Addr} {xs : List V} (e : Same H H') (h : SqT K H a xs) : SqT K H' a xs := by
  rcases h with (h | ⟨o, h⟩) | h
  · exact .inl (.inl (e _ _ h))
  · exact .inl (.inr ⟨o, e _ _ h⟩)
  · exact .inr h
/-! ### steps -/
def KBl (x : V) (H : Hp) (QT : Bool → Hp → Prop) : Prop := ∃ k, x = .bl k ∧ QT k H
def KTr (K : PySem.W.Frag) (x : V) (H : Hp) (QT : Bool → Hp → Prop) : Prop := ∃ k, TruV K x H k ∧ QT k H
def KInt (x : V) (H : Hp) (QO : Option Int → Hp → Prop) : Prop := ∃ i, x = .int i ∧ QO (some i) H
def KR1 (vs : List V) (H : Hp) (R : It → Hp → Prop) : Prop := ∃ j : Int, vs = [.int j] ∧ -(2 ^ 62) ≤ j ∧ j < 2 ^ 62 ∧ R (Itr 0 j.toNat) H
def KR2 (vs : List V) (H : Hp) (R : It → Hp → Prop) : Prop := ∃ i j : Int, vs = [.int i, .int j] ∧ (-(2 ^ 62) ≤ i ∧ i < 2 ^ 62 ∧ -(2 ^ 62) ≤ j ∧ j < 2 ^ 62) ∧ R (Itr i (j - i).toNat) H
def KL (K : PySem.W.Frag) (x : V) (H : Hp) (R : It → Hp → Prop) : Prop := ∃ a, x = .ref a ∧ (∃ xs, SqL K H a xs) ∧ R (Itl K a) H
def KT (K : PySem.W.Frag) (x : V) (H : Hp) (R : It → Hp → Prop) : Prop := ∃ a, x = .ref a ∧ (∃ xs, SqT K H a xs) ∧ R (Itt K a) H
def KS (x : V) (H : Hp) (R : It → Hp → Prop) : Prop := ∃ z, x = .str z ∧ R (Its z) H
def NewO (n : Nat) (o : HO) (H : Hp) (Q : VK) : Prop := n ≤ sizeLine ∧ ∀ p, H p = none → Q (.ref p) (upd H p o)
def COut (D : Addr) (y : V) (H : Hp) (N : Hp → Prop) : Prop := ∃ acc, H D = some (.lst acc) ∧ acc.length < sizeLine ∧ N (upd H D (.lst (acc ++ [y])))
def KWh (W : Nat → L2.St → Hp → Prop) (m : Nat) (t : TS) (D : Ends) (σ : L2.St) (H : Hp) : Prop := ∃ N : L2.St → Hp → Prop, (∀ σ' H', N σ' H' → ∃ m', m' < m ∧ W m' σ' H') ∧ t ⟨N, D.rt, D.nx, N⟩ σ H
section
variable {K : PySem.W.Frag} {σ : L2.St} {H : Hp} {Q : VK} {QT : Bool → Hp → Prop} {D : Ends} {t u : TS} {c c' : TT} {te ta tb : TE} {g : TG} {v x y : V} {i : Nat} {b : Bool} {QA : List V → Hp → Prop}
theorem s_seq (h : t ⟨u D, D.rt, D.bk, D.ct⟩ σ H) : tSeq t u D σ H := h
theorem s_asg (h : te σ H fun x H1 => g x σ H1 D.nx) : tAsg te g D σ H := h
theorem g_name {QS : L2.St → Hp → Prop} (h : QS (σ.set i (some v)) H) : gName i v σ H QS := h
theorem s_ret (h : te σ H D.rt) : tRet te D σ H := h
theorem s_retN (h : D.rt .non H) : tRetN D σ H := h
theorem s_drop (h : te σ H fun _ H1 => D.nx σ H1) : tDrop te D σ H := h
theorem s_if (h : c σ H fun b H1 => if b = true then t D σ H1 else u D σ H1) : tIfS c t u D σ H := h
theorem s_next (h : D.nx σ H) : tNext D σ H := h
theorem s_brk (h : D.bk σ H) : tBreak D σ H := h
theorem s_ct (h : D.ct σ H) : tCont D σ H := h
theorem s_aug {ti : TIp} (e : σ[i]? = some (some x)) (h : te σ H fun y H1 => ti x y H1 fun z H2 => D.nx (σ.set i (some z)) H2) : tAug i te ti D σ H := ⟨x, e, h⟩
theorem i_add {i j : Int} {f : Int → Int → Int} (h : Q (.int (f i j)) H) : ipI f (.int i) (.int j) H Q := ⟨i, j, rfl, rfl, h⟩
theorem s_cut (M : L2.St → Hp → Prop) (h : t ⟨M, D.rt, D.bk, D.ct⟩ σ H) (k : ∀ σ' H', M σ' H' → u D σ' H') : C8.tCut t u D σ H := ⟨M, h, k⟩
theorem e_var (e : σ[i]? = some (some v)) (h : Q v H) : tVar i σ H Q := ⟨v, e, h⟩
theorem e_c (h : Q v H) : tC v σ H Q := h
theorem e_op {r : R2} (h : ta σ H fun x H1 => tb σ H1 fun y H2 => r x y H2 Q) : tOp r ta tb σ H Q := h
theorem e_un {r : V → Hp → VK → Prop} (h : ta σ H fun x H1 => r x H1 Q) : tUn r ta σ H Q := h
theorem o_addI {i j : Int} (h : Q (.int (i + j)) H) : rAdd3 (.int i) (.int j) H Q := .inl ⟨i, j, rfl, rfl, h⟩
theorem o_addS {i j : Str} (hz : i.length + j.length ≤ sizeLine) (h : Q (.str (i ++ j)) H) : rAdd3 (.str i) (.str j) H Q := .inr (.inl ⟨i, j, rfl, rfl, hz, h⟩)
theorem o_addL {a a' : Addr} {xs ys : List V} (ha : H a = some (.lst xs)) (hb : H a' = some (.lst ys)) (hz : xs.length + ys.length ≤ sizeLine) (h : ∀ p H2, H p = none → Same H H2 → H2 p = some (.lst (xs ++ ys)) → Q (.ref p) H2) :
    rAdd3 (.ref a) (.ref a') H Q := .inr (.inr ⟨a, a', xs, ys, rfl, rfl, ha, hb, hz, new_same h⟩)
theorem o_mulI {i j : Int} (hc : CMul i j) (h : Q (.int (i * j)) H) : rMul2 (.int i) (.int j) H Q := .inl ⟨i, j, rfl, rfl, hc, h⟩
theorem o_mulI1 {i j : Int} (h1 : -(2 ^ 64) < i) (h2 : i < 2 ^ 64) (h : Q (.int (i * j)) H) : rMul2 (.int i) (.int j) H Q := o_mulI (.inl ⟨h1, h2⟩) h
theorem o_mulI2 {i j : Int} (h1 : -(2 ^ 64) < j) (h2 : j < 2 ^ 64) (h : Q (.int (i * j)) H) : rMul2 (.int i) (.int j) H Q := o_mulI (.inr ⟨h1, h2⟩) h
theorem o_mod {f : Int → Int → V} {i j : Int} (h1 : 0 < j) (h : Q (f i j) H) : rI (fun _ j => 0 < j) f (.int i) (.int j) H Q := ⟨i, j, rfl, rfl, h1, h⟩
theorem o_fdiv {f : Int → Int → V} {i j : Int} (h1 : 0 < j) (h2 : j < 1073741824) (h : Q (f i j) H) : rI CDiv f (.int i) (.int j) H Q := ⟨i, j, rfl, rfl, ⟨h1, h2⟩, h⟩
theorem o_pow {f : Int → Int → V} {i j : Int} (h1 : 0 ≤ j) (h2 : j ≤ 1000000) (h3 : i.natAbs < 2 ^ 64) (h : Q (f i j) H) : rI CPow f (.int i) (.int j) H Q := ⟨i, j, rfl, rfl, ⟨h1, h2, h3⟩, h⟩
theorem o_mulS {z : Str} {k : Int} (h0 : 0 ≤ k) (h1 : k ≤ 1000) (h2 : z.length ≤ 1000) (h : Q (.str (repS z k)) H) : rMul2 (.str z) (.int k) H Q := .inr ⟨z, k, rfl, rfl, h0, h1, h2, h⟩
theorem o_I0 {f : Int → Int → V} {i j : Int} (h : Q (f i j) H) : rI0 f (.int i) (.int j) H Q := ⟨i, j, rfl, rfl, h⟩
theorem o_I {C : Int → Int → Prop} {f : Int → Int → V} {i j : Int} (hc : C i j) (h : Q (f i j) H) : rI C f (.int i) (.int j) H Q := ⟨i, j, rfl, rfl, hc, h⟩
theorem o_eqS (hs : scal x y = true) (h : Q (.bl (decide (x = y))) H) : rEq2 K x y H Q := .inl ⟨hs, h⟩
theorem o_neS (hs : scal x y = true) (h : Q (.bl (!decide (x = y))) H) : rNe2 K x y H Q := .inl ⟨hs, h⟩
theorem o_eqD {d e : PyData} (h1 : Dp K H x d) (h2 : Dp K H y e) (h3 : SeqAt.shaped d = true) (h4 : SeqAt.shaped e = true) (h : Q (.bl (PyData.eqv d e)) H) : rEq2 K x y H Q := .inr ⟨d, e, h1, h2, h3, h4, h⟩
theorem o_neD {d e : PyData} (h1 : Dp K H x d) (h2 : Dp K H y e) (h3 : SeqAt.shaped d = true) (h4 : SeqAt.shaped e = true) (h : Q (.bl (!PyData.eqv d e)) H) : rNe2 K x y H Q := .inr ⟨d, e, h1, h2, h3, h4, h⟩
theorem o_inS {k : Nat} {z : Str} (h : Q (.bl (decide (k ∈ z.cps.toList))) H) : rIn2 K (.str ⟨#[k]⟩) (.str z) H Q := .inl ⟨k, z, rfl, rfl, h⟩
theorem o_niS {k : Nat} {z : Str} (h : Q (.bl (!decide (k ∈ z.cps.toList))) H) : rNi2 K (.str ⟨#[k]⟩) (.str z) H Q := .inl ⟨k, z, rfl, rfl, h⟩
theorem o_inT {a : Addr} {xs : List V} (hs : SqT K H a xs) (hf : flatV x = true) (hg : xs.all flatV = true) (h : Q (.bl (inV x xs)) H) : rIn2 K x (.ref a) H Q := .inr ⟨a, xs, rfl, .inr hs, hf, hg, h⟩
theorem o_inL {a : Addr} {xs : List V} (hs : SqL K H a xs) (hf : flatV x = true) (hg : xs.all flatV = true) (h : Q (.bl (inV x xs)) H) : rIn2 K x (.ref a) H Q := .inr ⟨a, xs, rfl, .inl hs, hf, hg, h⟩
theorem o_niT {a : Addr} {xs : List V} (hs : SqT K H a xs) (hf : flatV x = true) (hg : xs.all flatV = true) (h : Q (.bl (!inV x xs)) H) : rNi2 K x (.ref a) H Q := .inr ⟨a, xs, rfl, .inr hs, hf, hg, h⟩
theorem o_niL {a : Addr} {xs : List V} (hs : SqL K H a xs) (hf : flatV x = true) (hg : xs.all flatV = true) (h : Q (.bl (!inV x xs)) H) : rNi2 K x (.ref a) H Q := .inr ⟨a, xs, rfl, .inl hs, hf, hg, h⟩
def rIsN : R2 := fun x y H Q => y = .non ∧ Q (.bl (decide (x = .non))) H
def rNtN : R2 := fun x y H Q => y = .non ∧ Q (.bl (!decide (x = .non))) H
theorem op_isN2 {X : Cx} : OpR X (compareOp .Is) rIsN := op_isN
theorem op_ntN2 {X : Cx} : OpR X (compareOp .IsNot) rNtN := op_notN
theorem o_isN (h : Q (.bl (decide (x = .non))) H) : rIsN x .non H Q := ⟨rfl, h⟩
theorem o_ntN (h : Q (.bl (!decide (x = .non))) H) : rNtN x .non H Q := ⟨rfl, h⟩
theorem o_ixL {a : Addr} {xs : List V} {j : Int} (hs : SqL K H a xs) (e : atI xs j = some v) (h : Q v H) : rIx K (.ref a) (.int j) H Q := .inl ⟨a, xs, j, v, rfl, rfl, hs, e, h⟩
theorem o_ixT {a : Addr} {xs : List V} {j : Int} (hs : SqT K H a xs) (e : atI xs j = some v) (h : Q v H) : rIx K (.ref a) (.int j) H Q := .inr (.inl ⟨a, xs, j, v, rfl, rfl, hs, e, h⟩)
theorem o_ixS {z : Str} {j : Int} {k : Nat} (hz : z.length ≤ sizeLine) (e : atI z.cps.toList j = some k) (h : Q (.str ⟨#[k]⟩) H) : rIx K (.str z) (.int j) H Q := .inr (.inr ⟨z, j, k, rfl, rfl, hz, e, h⟩)
theorem u_neg {i : Int} {f : Int → V} (h : Q (f i) H) : rU f (.int i) H Q := ⟨i, rfl, h⟩
theorem t_test (h : te σ H fun x H' => KBl x H' QT) : tTest te σ H QT := h
theorem t_b (h : te σ H fun x H' => KBl x H' QT) : tB te σ H QT := h
theorem k_bl (h : QT b H) : KBl (.bl b) H QT := ⟨b, rfl, h⟩
theorem t_tr (h : te σ H fun x H' => KTr K x H' QT) : tTr K te σ H QT := h
theorem k_trB (h : QT b H) : KTr K (.bl b) H QT := ⟨b, rfl, h⟩
theorem k_trN (h : QT false H) : KTr K .non H QT := ⟨false, rfl, h⟩
theorem k_trI {i : Int} (h : QT (i != 0) H) : KTr K (.int i) H QT := ⟨_, rfl, h⟩
theorem k_trL {a : Addr} {xs : List V} (hs : SqL K H a xs) (h : QT (!xs.isEmpty) H) : KTr K (.ref a) H QT := ⟨_, .inl ⟨xs, hs, rfl⟩, h⟩
theorem k_trT {a : Addr} {xs : List V} (hs : SqT K H a xs) (h : QT (!xs.isEmpty) H) : KTr K (.ref a) H QT := ⟨_, .inr (.inl ⟨xs, hs, rfl⟩), h⟩
theorem t_and (h : c σ H fun b H1 => if b = true then c' σ H1 QT else QT false H1) : tAnd c c' σ H QT := h
theorem t_or (h : c σ H fun b H1 => if b = true then QT true H1 else c' σ H1 QT) : tOr c c' σ H QT := h
theorem t_not (h : c σ H fun b H1 => QT (!b) H1) : tNot c σ H QT := h
theorem e_andV (h : ta σ H fun x H1 => KBl x H1 fun b H2 => if b = true then tb σ H2 Q else Q (.bl false) H2) : tAndV ta tb σ H Q := h
theorem e_orV (h : ta σ H fun x H1 => KBl x H1 fun b H2 => if b = true then Q (.bl true) H2 else tb σ H2 Q) : tOrV ta tb σ H Q := h
theorem e_notV (h : ta σ H fun x H1 => KBl x H1 fun b H2 => Q (.bl (!b)) H2) : tNotV ta σ H Q := h
theorem e_if (h : c σ H fun b H1 => if b = true then ta σ H1 Q else tb σ H1 Q) : tIf c ta tb σ H Q := h
theorem e_chain {r r' : R2} {tc : TE} (h : ta σ H fun x H1 => tb σ H1 fun y H2 => r x y H2 fun z H3 => KBl z H3 fun k H3 => if k = true then tc σ H3 fun w' H4 => r' y w' H4 Q else Q (.bl false) H3) : tChain r r' ta tb tc σ H Q := h
theorem a_nil (h : QA [] H) : tNil σ H QA := h
theorem a_cons {tr : TA} (h : te σ H fun x H1 => tr σ H1 fun xs H2 => QA (x :: xs) H2) : tCons te tr σ H QA := h
theorem c_b {r : List V → Hp → VK → Prop} {tl : TA} (h : tl σ H fun vs H1 => r vs H1 Q) : tCB r tl σ H Q := h
theorem c_call {sp : Sp} {dvs : List V} {E : XK} {tl : TA} (h : tl σ H fun vs H1 => sp (vs ++ dvs) H1 Q E) : tCall sp dvs E tl σ H Q := h
theorem b_lenS {z : Str} (hz : z.length ≤ sizeLine) (h : Q (.int z.length) H) : rLn K [.str z] H Q := ⟨_, z.length, rfl, ⟨hz, rfl⟩, h⟩
theorem b_lenL {a : Addr} {xs : List V} (hs : SqL K H a xs) (h : Q (.int xs.length) H) : rLn K [.ref a] H Q := ⟨_, xs.length, rfl, .inl ⟨xs, hs, rfl⟩, h⟩
theorem b_lenT {a : Addr} {xs : List V} (hs : SqT K H a xs) (h : Q (.int xs.length) H) : rLn K [.ref a] H Q := ⟨_, xs.length, rfl, .inr ⟨xs, hs, rfl⟩, h⟩
theorem b_int {i : Int} (h : Q (.int i) H) : rInt [.int i] H Q := .inl (.inl ⟨i, rfl, h⟩)
theorem b_intB (h : Q (.int (if b then 1 else 0)) H) : rInt [.bl b] H Q := .inl (.inr ⟨b, rfl, h⟩)
theorem b_intS {z : Str} {n : Int} (e : PySem.intText? z = some n) (hl : z.length ≤ 640) (h : Q (.int n) H) : rInt [.str z] H Q := .inr ⟨z, n, rfl, e, hl, h⟩
theorem b_abs {i : Int} (h : Q (.int (if i < 0 then -i else i)) H) : rAbs [.int i] H Q := ⟨i, rfl, h⟩
theorem b_isi {n : String} {x : V} {tv : Value} (ty : TyX K H x tv) (h : PySem.W.kitOne K tv (.type n) = some b) (q : Q (.bl b) H) : rIsi K [x, .ty n] H Q := ⟨x, .ty n, tv, .type n, b, rfl, .ty n, ty, h, q⟩
theorem e_tup {tl : TA} (h : tl σ H fun xs H1 => NewO xs.length (.tup xs) H1 Q) : tTup tl σ H Q := h
theorem e_lst {tl : TA} (h : tl σ H fun xs H1 => NewO xs.length (.lst xs) H1 Q) : tLst tl σ H Q := h
theorem n_obj {n : Nat} {o : HO} (hz : n ≤ sizeLine) (h : ∀ p H2, H p = none → Same H H2 → H2 p = some o → Q (.ref p) H2) : NewO n o H Q := ⟨hz, new_same h⟩
theorem e_sl {r : V → Option Int → Option Int → Hp → VK → Prop} {tl th : TO} (h : te σ H fun x H1 => tl σ H1 fun l H2 => th σ H2 fun u H3 => r x l u H3 Q) : tSl r te tl th σ H Q := h
theorem p_no {QO : Option Int → Hp → Prop} (h : QO none H) : tNoPart σ H QO := h
theorem p_so {QO : Option Int → Hp → Prop} (h : te σ H fun x H1 => KInt x H1 QO) : tPart te σ H QO := h
theorem k_int {i : Int} {QO : Option Int → Hp → Prop} (h : QO (some i) H) : KInt (.int i) H QO := ⟨i, rfl, h⟩
theorem l_S {z : Str} {lo hi : Option Int} (hz : z.length ≤ sizeLine) (h : Q (.str (cutS z lo hi)) H) : rSl2 K (.str z) lo hi H Q := .inl ⟨z, rfl, hz, h⟩
theorem l_L {a : Addr} {xs : List V} {lo hi : Option Int} (hs : SqL K H a xs) (h : ∀ p H2, H p = none → Same H H2 → H2 p = some (.lst (cutV xs lo hi)) → Q (.ref p) H2) : rSl2 K (.ref a) lo hi H Q := .inr ⟨a, xs, rfl, hs, new_same h⟩
/-- o.m(..), m of a built-in type -/
theorem m_bm {T : String} {r : V → List V → Hp → VK → Prop} {tl : TA} (h : te σ H fun x H1 => tyV K T x H1 ∧ tl σ H1 fun xs H2 => r x xs H2 Q) : tBM K T r te tl σ H Q := h
theorem m_ty {a : Addr} {xs : List V} {P : Prop} (hs : SqL K H a xs) (h : P) : tyV K "list" (.ref a) H ∧ P := ⟨.inl ⟨rfl, xs, hs⟩, h⟩
theorem m_app {a : Addr} {xs : List V} (e : H a = some (.lst xs)) (hz : xs.length < sizeLine) (h : ∀ H2, Chg a H H2 → H2 a = some (.lst (xs ++ [y])) → Q .non H2) : rAppend (.ref a) [y] H Q := ⟨a, xs, y, rfl, rfl, e, hz, h _ chg_upd upd_same⟩
theorem g_sub {to ti : TE} {ts : TSet} {QS : L2.St → Hp → Prop} (h : to σ H fun o H1 => ti σ H1 fun i H2 => ts o i v H2 fun H3 => QS σ H3) : gSub to ti ts v σ H QS := h
theorem st_L {a : Addr} {xs : List V} {k : Int} {j : Nat} {QH : Hp → Prop} (e : H a = some (.lst xs)) (hj : ixN xs.length k = some j) (h : ∀ H2, Chg a H H2 → H2 a = some (.lst (xs.set j v)) → QH H2) : rSetL (.ref a) (.int k) v H QH := ⟨a, xs, k, j, rfl, rfl, e, hj, h _ chg_upd upd_same⟩
theorem m_m1 {r : V → List V → Hp → VK → Prop} (h : te σ H fun x H1 => (∃ a, x = .str a) ∧ ta σ H1 fun y H2 => r x [y] H2 Q) : tM1 r te ta σ H Q := h
theorem m_st {z : Str} {P : Prop} (h : P) : (∃ a, V.str z = .str a) ∧ P := ⟨⟨z, rfl⟩, h⟩
def rJoin (K : PySem.W.Frag) : V → List V → Hp → VK → Prop := fun x xs H Q => ∃ a p, ∃ ys : List Str, x = .str a ∧ xs = [.ref p] ∧ (SqL K H p (ys.map V.str) ∨ SqT K H p (ys.map V.str)) ∧
  (ys.map (·.length)).sum + ys.length * a.length ≤ 16777216 ∧ Q (.str (Txt.join a ys)) H
theorem pe_join2 {X : Cx} {o e : Expr} {to te : TE} {apos pos : Pos} (ho : PE X o to) (he : PE X e te) (hs : starEach [e] X.env = [(false, eval e X.env)] := by rfl) (hbase : attributeBase o "join" X.env (eval o X.env) = eval o X.env := by rfl) (hline : (apos.endLine == pos.line) = true := by rfl) :
    PE X (.Call (.Attribute o "join" apos) [e] [] pos) (tM1 (rJoin X.K) to te) := pe_join ho he hs hbase hline
theorem m_join {z : Str} {a : Addr} {ys : List Str} (hs : SqL K H a (ys.map V.str)) (hz : (ys.map (·.length)).sum + ys.length * z.length ≤ 16777216) (h : Q (.str (Txt.join z ys)) H) : rJoin K (.str z) [.ref a] H Q := ⟨z, a, ys, rfl, rfl, .inl hs, hz, h⟩
/-! ### loops -/
def LoopF (J : It) (g : TG) (tb : TS) (D : Ends) (σ : L2.St) (H : Hp) : Prop := ∃ W : Nat → Nat → L2.St → Hp → Prop, (∃ m, W 0 m σ H) ∧ ∀ i m σ H, W i m σ H →
  (J.stop i H ∧ D.nx σ H) ∨ (J.go i H ∧ ∃ N : L2.St → Hp → Prop, (∀ σ' H', N σ' H' → ∃ m', m' < m ∧ W (i + 1) m' σ' H') ∧ ∀ x H', J.yld i H x H' → g x σ H' fun σ2 H2 => tb { D with nx := N, ct := N, bk := D.nx } σ2 H2)
theorem s_for {wi : TI} (h : wi σ H fun J H1 => LoopF J g t D σ H1) : tFor wi g t D σ H := h
def LoopC (J : It) (g : TG) (tt : TT) (te : TE) (vs : List Nat) (σ : L2.St) (H1 : Hp) (Q : VK) : Prop := ∀ D, H1 D = none → ∃ W : Nat → Nat → Hp → Prop, (∃ m, W 0 m (upd H1 D (.lst []))) ∧ ∀ i m H, W i m H →
  (J.stop i H ∧ Q (.ref D) H) ∨ (J.go i H ∧ ∃ Nx : Hp → Prop, (∀ H', Nx H' → ∃ m', m' < m ∧ W (i + 1) m' H') ∧ ∀ x H', J.yld i H x H' → g x (wipe σ vs) H' fun σ2 H2 => wipe σ2 vs = wipe σ vs ∧ tt σ2 H2 fun b H3 =>
    if b = true then te σ2 H3 fun y H4 => ∃ acc, H4 D = some (.lst acc) ∧ acc.length < sizeLine ∧ Nx (upd H4 D (.lst (acc ++ [y]))) else Nx H3)
theorem e_lc {wi : TI} {tt : TT} {vs : List Nat} (h : wi σ H fun J H1 => LoopC J g tt te vs σ H1 Q) : tLc wi g tt te vs σ H Q := h
theorem t_yes (h : QT true H) : tYes σ H QT := h
theorem w_r1 {tl : TA} {R : It → Hp → Prop} (h : tl σ H fun vs H1 => KR1 vs H1 R) : iRng1 tl σ H R := h
theorem w_r2 {tl : TA} {R : It → Hp → Prop} (h : tl σ H fun vs H1 => KR2 vs H1 R) : iRng2 tl σ H R := h
theorem k_r1 {j : Int} {R : It → Hp → Prop} (h1 : -(2 ^ 62) ≤ j) (h2 : j < 2 ^ 62) (h : R (Itr 0 j.toNat) H) : KR1 [.int j] H R := ⟨j, rfl, h1, h2, h⟩
theorem k_r2 {i j : Int} {R : It → Hp → Prop} (h1 : -(2 ^ 62) ≤ i ∧ i < 2 ^ 62 ∧ -(2 ^ 62) ≤ j ∧ j < 2 ^ 62) (h : R (Itr i (j - i).toNat) H) : KR2 [.int i, .int j] H R := ⟨i, j, rfl, h1, h⟩
theorem w_l {R : It → Hp → Prop} (h : te σ H fun x H1 => KL K x H1 R) : iList K te σ H R := h
theorem k_l {a : Addr} {xs : List V} {R : It → Hp → Prop} (hs : SqL K H a xs) (h : R (Itl K a) H) : KL K (.ref a) H R := ⟨a, rfl, ⟨xs, hs⟩, h⟩
theorem w_t {R : It → Hp → Prop} (h : te σ H fun x H1 => KT K x H1 R) : iTup K te σ H R := h
theorem k_t {a : Addr} {xs : List V} {R : It → Hp → Prop} (hs : SqT K H a xs) (h : R (Itt K a) H) : KT K (.ref a) H R := ⟨a, rfl, ⟨xs, hs⟩, h⟩
theorem f_range {lo : Int} {n : Nat} (Pv : Nat → L2.St → Hp → Prop) (h0 : Pv 0 σ H)
    (hs : ∀ i σ H, i < n → Pv i σ H → g (.int (lo + i)) σ H fun σ2 H2 => t ⟨Pv (i + 1), D.rt, D.nx, Pv (i + 1)⟩ σ2 H2) (hd : ∀ σ H, Pv n σ H → D.nx σ H) : LoopF (Itr lo n) g t D σ H := for_range Pv h0 hs hd
theorem f_list {a : Addr} {xs : List V} (Pv : Nat → L2.St → Hp → Prop) (h0 : Pv 0 σ H) (hl : ∀ i σ H, i ≤ xs.length → Pv i σ H → SqL K H a xs)
    (hs : ∀ i x σ H, xs[i]? = some x → Pv i σ H → g x σ H fun σ2 H2 => t ⟨Pv (i + 1), D.rt, D.nx, Pv (i + 1)⟩ σ2 H2) (hd : ∀ σ H, Pv xs.length σ H → D.nx σ H) : LoopF (Itl K a) g t D σ H := for_list Pv h0 hl hs hd
theorem f_tup {a : Addr} {xs : List V} (Pv : Nat → L2.St → Hp → Prop) (h0 : Pv 0 σ H) (hl : ∀ i σ H, i ≤ xs.length → Pv i σ H → SqT K H a xs)
    (hs : ∀ i x σ H, xs[i]? = some x → Pv i σ H → g x σ H fun σ2 H2 => t ⟨Pv (i + 1), D.rt, D.nx, Pv (i + 1)⟩ σ2 H2) (hd : ∀ σ H, Pv xs.length σ H → D.nx σ H) : LoopF (Itt K a) g t D σ H := for_tup Pv h0 hl hs hd
/-- a text, sign by sign -/
theorem w_s {R : It → Hp → Prop} (h : te σ H fun x H1 => KS x H1 R) : iStr te σ H R := h
theorem k_s {z : Str} {R : It → Hp → Prop} (h : R (Its z) H) : KS (.str z) H R := ⟨z, rfl, h⟩
theorem f_str {z : Str} (Pv : Nat → L2.St → Hp → Prop) (h0 : Pv 0 σ H)
    (hs : ∀ i k σ H, z.cps.toList[i]? = some k → Pv i σ H → g (.str ⟨#[k]⟩) σ H fun σ2 H2 => t ⟨Pv (i + 1), D.rt, D.nx, Pv (i + 1)⟩ σ2 H2) (hd : ∀ σ H, Pv z.cps.toList.length σ H → D.nx σ H) : LoopF (Its z) g t D σ H := by
  refine ⟨fun i m σ H => m = z.cps.toList.length - i ∧ i ≤ z.cps.toList.length ∧ Pv i σ H, ⟨_, rfl, Nat.zero_le _, h0⟩, ?_⟩
  rintro i m σ H ⟨rfl, hi, p⟩
  by_cases hlt : i < z.cps.toList.length
  · refine .inr ⟨show i < z.cps.size by simpa using hlt, Pv (i + 1), fun σ' H' p' => ⟨z.cps.toList.length - (i + 1), by omega, rfl, hlt, p'⟩, fun x H' y => ?_⟩
    obtain ⟨rfl, k, e, rfl⟩ := y
    exact hs i k σ _ (by simpa using e) p
  · have e : i = z.cps.toList.length := by omega
    subst e
    exact .inl ⟨by simp [Its], hd σ H p⟩
theorem c_range {lo : Int} {n : Nat} {vs : List Nat} {tt : TT} (Pv : Addr → Nat → Hp → Prop) (h0 : ∀ D H1, H D = none → Same H H1 → H1 D = some (.lst []) → Pv D 0 H1)
    (hs : ∀ D i H1, i < n → H D = none → Pv D i H1 → g (.int (lo + i)) (wipe σ vs) H1 fun σ2 H2 => wipe σ2 vs = wipe σ vs ∧ tt σ2 H2 fun b H3 =>
      if b = true then te σ2 H3 fun y H4 => COut D y H4 (Pv D (i + 1)) else Pv D (i + 1) H3) (hd : ∀ D H1, H D = none → Pv D n H1 → Q (.ref D) H1) :
    LoopC (Itr lo n) g tt te vs σ H Q := fun D nD => lc_range (Pv D) (h0 D _ nD (same_new nD) upd_same) (fun i H1 hi p => hs D i H1 hi nD p) fun H1 p => hd D H1 nD p
theorem c_list {a : Addr} {xs : List V} {vs : List Nat} {tt : TT} (Pv : Addr → Nat → Hp → Prop) (h0 : ∀ D H1, H D = none → Same H H1 → H1 D = some (.lst []) → Pv D 0 H1) (hl : ∀ D i H1, i ≤ xs.length → H D = none → Pv D i H1 → SqL K H1 a xs)
    (hs : ∀ D i x H1, xs[i]? = some x → H D = none → Pv D i H1 → g x (wipe σ vs) H1 fun σ2 H2 => wipe σ2 vs = wipe σ vs ∧ tt σ2 H2 fun b H3 =>
      if b = true then te σ2 H3 fun y H4 => COut D y H4 (Pv D (i + 1)) else Pv D (i + 1) H3) (hd : ∀ D H1, H D = none → Pv D xs.length H1 → Q (.ref D) H1) :
    LoopC (Itl K a) g tt te vs σ H Q := fun D nD => lc_list (Pv D) (h0 D _ nD (same_new nD) upd_same) (fun i H1 hi p => hl D i H1 hi nD p) (fun i x H1 hi p => hs D i x H1 hi nD p) fun H1 p => hd D H1 nD p
theorem c_out {D : Addr} {acc : List V} {N : Hp → Prop} (e : H D = some (.lst acc)) (hz : acc.length < sizeLine) (h : ∀ H2, Chg D H H2 → H2 D = some (.lst (acc ++ [y])) → N H2) : COut D y H N := ⟨acc, e, hz, h _ chg_upd upd_same⟩
theorem s_while (W : Nat → L2.St → Hp → Prop) (m0 : Nat) (h0 : W m0 σ H) (hs : ∀ m σ H, W m σ H → c σ H fun b H1 => if b = true then KWh W m t D σ H1 else D.nx σ H1) : tWhile c t D σ H := ⟨W, ⟨m0, h0⟩, hs⟩
theorem k_while {W : Nat → L2.St → Hp → Prop} {m : Nat} (h : t ⟨fun σ' H' => ∃ m', m' < m ∧ W m' σ' H', D.rt, D.nx, fun σ' H' => ∃ m', m' < m ∧ W m' σ' H'⟩ σ H) : KWh W m t D σ H := ⟨_, fun _ _ q => q, h⟩
end
/-! ### a def of the top -/
structure DefOk (K : PySem.W.Frag) (mg : Str → Option Value) (x : Str) (st : Stmt) : Prop where
  ex : ∃ f fd, FunD K x x (defArgs st) (defBody st) (defScope st) [] [] f fd ∧ mg x = some (.ref f)
theorem cal_of {P : Program} {w : World} {K : PySem.W.Frag} {mg : Str → Option Value} {base : Heap} {x : Str} {st : Stmt} {N ps : List Str} {k : Nat} {sp : Sp} (F : DefOk K mg x st) (S : FnScope N ps (defScope st))
    (hb : ∀ f fd, FunD K x x (defArgs st) (defBody st) (defScope st) [] [] f fd → Binds K fd ps []) (len : ∀ vs H Q E, sp vs H Q E → vs.length = ps.length)
    (body : ∀ (f : Addr) (cdv : Value) (A : Around) (outer : List Env) (s : Shared) (H : Hp) (vs : List V) (Q : VK) (E : XK), Room k (A.deeper (envOfC x (defScope st) s.heap.objs.size f cdv)) → sp vs H Q E →
      ∃ t, PSs (cxOf CX0 P w K mg base N x (defScope st) f cdv A outer s H E).nox (defBody st) t ∧ t { nx := fun _ H' => Q .non H', rt := Q } (start N vs) H) : C8.Cal P w K mg base (k + 1) x sp [] := by
  obtain ⟨f, fd, F, hm⟩ := F.ex
  refine ⟨f, fd, ps, [], F.ok S len fun cdv A outer s H vs Q E hr h => ?_, hm, F.kp, hb f fd F, .nil⟩
  obtain ⟨t, h1, h2⟩ := body f cdv A outer s H vs Q E hr h
  exact ⟨t, PSs.nox h1, h2⟩
/-! ### calls without arguments -/
section
variable {X : Cx} {k j : Nat} {x : Str} {sp : Sp} {dvs : List V} {p pos : Pos}
theorem pe_c0 (c : C8.Cal X.prog X.w X.K X.mg X.base k x sp dvs) (hr : Room j X.A) (hk : k ≤ j) (hg : Gl X x) (hdb : (x == ("__debug__" : Str)) = false := by decide) :
    PE X (.Call (.Name x p) [] [] pos) (tCall sp dvs C8.E0 tNil) := by
  obtain ⟨f, fd, ps, ds, F, hm, kp, b, d⟩ := c.ex
  exact pe_call0 F (hr.mono hk) hg hm kp b d pass0 hdb
end
/-! ### a law's own hand of draws -/
def HandAt (H : Hp) (h d : Addr) : Prop := ∃ (n : Int) (ds : List Int), H h = some (.lst [.ref d, .int n]) ∧ 0 ≤ n ∧ H d = some (.lst (ds.map V.int))
/-- a draw below many -/
def spTake : Sp := fun vs H Q _ => ∃ (h d : Addr) (m : Int), vs = [.ref h, .int m] ∧ HandAt H h d ∧ 0 < m ∧ ∀ r H', 0 ≤ r → r < m → Chg h H H' → HandAt H' h d → Q (.int r) H'
theorem HandAt.ne {H : Hp} {h d : Addr} (x : HandAt H h d) : d ≠ h := by
  obtain ⟨n, ds, h1, h2, h3⟩ := x
  intro e
  subst e
  rw [h1] at h3
  cases ds <;> cases h3
theorem HandAt.same {H H' : Hp} {h d : Addr} (s : Same H H') (x : HandAt H h d) : HandAt H' h d := by
  obtain ⟨n, ds, h1, h2, h3⟩ := x
  exact ⟨n, ds, s _ _ h1, h2, s _ _ h3⟩
theorem HandAt.chg {H H' : Hp} {h d D : Addr} (c : Chg D H H') (x : HandAt H h d) (n1 : h ≠ D) (n2 : d ≠ D) : HandAt H' h d := by
  obtain ⟨n, ds, h1, h2, h3⟩ := x
  exact ⟨n, ds, c.at h1 n1, h2, c.at h3 n2⟩
theorem HandAt.new {H : Hp} {h d D : Addr} (x : HandAt H h d) (n : H D = none) : h ≠ D ∧ d ≠ D := by
  obtain ⟨_, ds, h1, h2, h3⟩ := x
  exact ⟨ne_of_none h1 n, ne_of_none h3 n⟩
/-- all but h is kept -/
def Keep (h : Addr) (H H' : Hp) : Prop := ∀ b o, b ≠ h → H b = some o → H' b = some o
theorem Keep.refl (h : Addr) (H : Hp) : Keep h H H := fun _ _ _ e => e
theorem Keep.trans {h : Addr} {H H1 H2 : Hp} (a : Keep h H H1) (b : Keep h H1 H2) : Keep h H H2 := fun c o n e => b c o n (a c o n e)
theorem Chg.keep {h : Addr} {H H' : Hp} (c : Chg h H H') : Keep h H H' := fun b o n e => c.at e n
theorem _root_.L2.Same.keep {h : Addr} {H H' : Hp} (c : Same H H') : Keep h H H' := fun b o _ e => c b o e
theorem Keep.chg {h D : Addr} {H H1 H2 : Hp} (k : Keep h H H1) (c : Chg D H1 H2) (n : H D = none) : Keep h H H2 := fun b o m e => c.at (k b o m e) (ne_of_none e n)
theorem Keep.free {h D : Addr} {H H1 : Hp} (k : Keep h H H1) (n : H1 D = none) (m : D ≠ h) : H D = none := by
  cases q : H D with
  | none => rfl
  | some o =>
    rw [k D o m q] at n
    cases n
theorem Keep.at {h b : Addr} {H H' : Hp} {o : HO} (c : Keep h H H') (e : H b = some o) (n : b ≠ h) : H' b = some o := c b o n e
theorem atI_of {α : Type} {xs : List α} {i : Int} {j : Nat} {v : α} (e : i = (j : Int)) (h : xs[j]? = some v) : atI xs i = some v := by
  subst e
  exact atI_nat h
/-! ### texts -/
theorem joinL_nil : ∀ ps : List (List Nat), TL.joinL [] ps = ps.flatten
  | [] => rfl
  | [p] => by simp [TL.joinL]
  | p :: q :: r => by
    show p ++ ([] ++ TL.joinL [] (q :: r)) = _
    rw [joinL_nil (q :: r)]
    simp
theorem join_empty (ys : List Str) : (Txt.join (Str.ofString "") ys).cps.toList = (ys.map fun y => y.cps.toList).flatten := by
  rw [TL.join_eq]
  have h := TL.tl_join (Str.ofString "") ys
  have e : TL.tl (Str.ofString "") = [] := by decide +kernel
  rw [e, joinL_nil] at h
  exact h
theorem str_len (z : Str) : z.length = z.cps.toList.length := by simp [Str.length]
theorem str_ext {x y : Str} (h : x.cps.toList = y.cps.toList) : x = y := by
  obtain ⟨a⟩ := x
  obtain ⟨b⟩ := y
  have e : a = b := Array.ext' h
  rw [e]
theorem app_len (x y : Str) : (x ++ y).length = x.length + y.length := by
  show (x.cps ++ y.cps).size = x.cps.size + y.cps.size
  simp
theorem app_tl (x y : Str) : (x ++ y).cps.toList = x.cps.toList ++ y.cps.toList := by
  show (x.cps ++ y.cps).toList = x.cps.toList ++ y.cps.toList
  simp
theorem repS_len (z : Str) (k : Int) : (repS z k).length = k.toNat * z.length := by
  unfold repS
  simp [Str.length, List.length_flatten, List.map_replicate, List.sum_replicate_nat]
theorem cutS_nat (z : Str) {i j : Nat} (hi : i ≤ z.length) (hj : j ≤ z.length) : (cutS z (some (i : Int)) (some (j : Int))).cps.toList = (z.cps.toList.drop i).take (j - i) := by
  unfold cutS
  rw [HT.sIx_nat, HT.sIx_nat, Nat.min_eq_left hi, Nat.min_eq_left hj]
theorem cutS_len2 (z : Str) (i : Nat) : (cutS z (some (i : Int)) (some ((i + 2 : Nat) : Int))).length = min (i + 2) z.length - min i z.length := by
  unfold cutS
  rw [HT.sIx_nat, HT.sIx_nat]
  show ((((z.cps.toList.drop (min i z.length)).take (min (i + 2) z.length - min i z.length)).toArray).size) = _
  rw [List.size_toArray, List.length_take, List.length_drop, Array.length_toList]
  show min _ (z.length - _) = _
  omega
/-- the place behind the longest run from i of signs in p -/
def runEnd (cs p : List Nat) (i : Nat) : Nat := i + ((cs.drop i).takeWhile fun c => decide (c ∈ p)).length
theorem runEnd_out {cs p : List Nat} {i : Nat} (h : cs.length ≤ i) : runEnd cs p i = i := by
  unfold runEnd
  rw [List.drop_of_length_le h]
  rfl
theorem runEnd_no {cs p : List Nat} {i c : Nat} (e : cs[i]? = some c) (h : c ∉ p) : runEnd cs p i = i := by
  unfold runEnd
  have hi : i < cs.length := (List.getElem?_eq_some_iff.mp e).1
  rw [List.drop_eq_getElem_cons hi, (List.getElem?_eq_some_iff.mp e).2, List.takeWhile_cons_of_neg (by simpa using h)]
  rfl
theorem runEnd_yes {cs p : List Nat} {i c : Nat} (e : cs[i]? = some c) (h : c ∈ p) : runEnd cs p i = runEnd cs p (i + 1) := by
  unfold runEnd
  have hi : i < cs.length := (List.getElem?_eq_some_iff.mp e).1
  rw [List.drop_eq_getElem_cons hi, (List.getElem?_eq_some_iff.mp e).2, List.takeWhile_cons_of_pos (by simpa using h), List.length_cons]
  omega
theorem runEnd_ge (cs p : List Nat) (i : Nat) : i ≤ runEnd cs p i := Nat.le_add_right _ _
theorem runEnd_le {cs p : List Nat} {i : Nat} (h : i ≤ cs.length) : runEnd cs p i ≤ cs.length := by
  unfold runEnd
  have h1 := (List.takeWhile_prefix (fun c => decide (c ∈ p)) (l := cs.drop i)).length_le
  rw [List.length_drop] at h1
  omega
theorem runEnd_all {cs p : List Nat} : runEnd cs p 0 = cs.length ↔ ∀ c ∈ cs, c ∈ p := by
  unfold runEnd
  rw [List.drop_zero, Nat.zero_add]
  induction cs with
  | nil => simp
  | cons a r ih =>
    by_cases h : a ∈ p
    · rw [List.takeWhile_cons_of_pos (by simpa using h), List.length_cons, List.length_cons, Nat.add_right_cancel_iff, ih]
      simp [h]
    · rw [List.takeWhile_cons_of_neg (by simpa using h)]
      simp [h]
theorem atI_cps {z : Str} {i : Nat} (h : i < z.length) : ∃ c, z.cps.toList[i]? = some c ∧ atI z.cps.toList (i : Int) = some c := by
  have h1 : i < z.cps.toList.length := by rw [← str_len]; exact h
  exact ⟨_, List.getElem?_eq_getElem h1, atI_nat (List.getElem?_eq_getElem h1)⟩
theorem small1000' {n : Nat} (h : n ≤ 100000) : n < sizeLine := Nat.lt_of_le_of_lt h (by decide)
theorem ixN_nat {n j : Nat} (h : j < n) : ixN n (j : Int) = some j := by
  unfold ixN
  rw [if_pos (by omega), if_pos (by omega)]
  simp
/-- one sign, compared -/
theorem sign_eq {c k : Nat} {y : Str} (hy : y = ⟨#[k]⟩) : decide (V.str ⟨#[c]⟩ = V.str y) = true ↔ c = k := by
  rw [decide_eq_true_iff, hy]
  constructor
  · intro e
    injection e with e
    injection e with e
    have e2 := congrArg Array.toList e
    simpa using e2
  · intro e
    rw [e]
theorem snoc_int {H : Hp} {d : Addr} {ds : List Int} {v : Int} (e : H d = some (.lst (ds.map V.int ++ [.int v]))) : ∃ ds' : List Int, H d = some (.lst (ds'.map V.int)) ∧ ds'.length = ds.length + 1 :=
  ⟨ds ++ [v], by rw [e, List.map_append]; rfl, by rw [List.length_append]; rfl⟩
/-- the items are texts of at most m signs -/
def strsB (m : Nat) (xs : List V) : Bool := xs.all fun x => match x with | .str y => decide (y.length ≤ m) | _ => false
theorem item_str (xs : List V) {m : Nat} (h : strsB m xs = true) {j : Nat} (hj : j < xs.length) : ∃ y : Str, xs[j]? = some (.str y) ∧ y.length ≤ m := by
  have h1 := List.all_eq_true.mp h xs[j] (List.getElem_mem hj)
  cases e : xs[j] with
  | str y =>
    rw [e] at h1
    exact ⟨y, by rw [List.getElem?_eq_getElem hj, e], of_decide_eq_true h1⟩
  | _ =>
    rw [e] at h1
    cases h1
theorem fn_of2 {P : Program} {w : World} {K : PySem.W.Frag} {mg : Str → Option Value} {base : Heap} {x : Str} {st : Stmt} {N ps : List Str} {k : Nat} {sp : Sp} {f : Addr} {fd : FuncData} (F : FunD K x x (defArgs st) (defBody st) (defScope st) [] [] f fd) (S : FnScope N ps (defScope st))
    (len : ∀ vs H Q E, sp vs H Q E → vs.length = ps.length)
    (body : ∀ (f : Addr) (cdv : Value) (A : Around) (outer : List Env) (s : Shared) (H : Hp) (vs : List V) (Q : VK) (E : XK), Room k (A.deeper (envOfC x (defScope st) s.heap.objs.size f cdv)) → sp vs H Q E →
      ∃ t, PSs (cxOf CX0 P w K mg base N x (defScope st) f cdv A outer s H E).nox (defBody st) t ∧ t { nx := fun _ H' => Q .non H', rt := Q } (start N vs) H) : FnOk P w K mg base CX0 (k + 1) f fd ps sp :=
  F.ok S len fun cdv A outer s H vs Q E hr h => by
    obtain ⟨t, h1, h2⟩ := body f cdv A outer s H vs Q E hr h
    exact ⟨t, PSs.nox h1, h2⟩
theorem lz {n : Nat} (h : n ≤ 1000) : n ≤ sizeLine := Nat.le_of_lt (small1000 h)
/-! ### more steps -/
def rStrI : List V → Hp → VK → Prop := fun xs H Q => ∃ i, xs = [.int i] ∧ i.natAbs.log2 < 1920 ∧ Q (.str (toString i)) H
theorem call_strI {X : Cx} : CallR X (.type "str") rStrI := call_str_int
def rLst (K : PySem.W.Frag) : List V → Hp → VK → Prop := fun xs H Q => ∃ p ys, xs = [.ref p] ∧ (SqL K H p ys ∨ SqT K H p ys) ∧ ∀ l, H l = none → Q (.ref l) (upd H l (.lst ys))
theorem call_lst {X : Cx} : CallR X (.type "list") (rLst X.K) := call_list_of
def rTpl (K : PySem.W.Frag) : List V → Hp → VK → Prop := fun xs H Q => ∃ p ys, xs = [.ref p] ∧ SqL K H p ys ∧ ∀ l, H l = none → Q (.ref l) (upd H l (.tup ys))
theorem log_small {n : Nat} (h : n < 10 ^ 40) : n.log2 < 1920 := by
  by_cases h0 : n = 0
  · subst h0
    decide
  · rw [Nat.log2_lt h0]
    exact Nat.lt_of_lt_of_le h (by decide +kernel)
def tJoined (ts : List TE) : TE := fun σ H Q => tJs ts Str.empty σ H fun out H1 => Q (.str out) H1
theorem pe_joined2 {X : Cx} {v1 v2 : Expr} {rest : List Expr} {ts : List TE} {pos : Pos} (h : PJ X (v1 :: v2 :: rest) ts) : PE X (.JoinedStr (v1 :: v2 :: rest) pos) (tJoined ts) := pe_joined h
def KJ (x : V) (acc : Str) (ts : List TE) (σ : L2.St) (H : Hp) (Q : Str → Hp → Prop) : Prop := ∃ y : Str, x = .str y ∧ (acc ++ y).length ≤ sizeLine ∧ tJs ts (acc ++ y) σ H Q
def KF (x : V) (H : Hp) (Q : VK) : Prop := (∃ y : Str, x = .str y ∧ y.length ≤ sizeLine ∧ Q (.str y) H) ∨ ∃ i : Int, x = .int i ∧ i.natAbs.log2 < 1920 ∧ Q (.str (toString i)) H
section
variable {K : PySem.W.Frag} {σ : L2.St} {H : Hp} {Q : VK} {QS : L2.St → Hp → Prop} {QJ : Str → Hp → Prop} {te : TE} {ts : List TE} {v : V} {g : TG}
theorem g_tup {u : TGs} {a : Addr} {xs : List V} {n : Nat} (hs : SqT K H a xs) (hl : xs.length = n) (h : u xs σ H QS) : gTup K n u (.ref a) σ H QS := ⟨a, xs, rfl, hs, hl, h⟩
theorem g_cons {u : TGs} {r : List V} (h : g v σ H fun σ' H' => u r σ' H' QS) : gCons g u (v :: r) σ H QS := ⟨v, r, rfl, h⟩
theorem g_nil (h : QS σ H) : gNil [] σ H QS := ⟨rfl, h⟩
theorem b_strI {i : Int} (hz : i.natAbs < 10 ^ 40) (h : Q (.str (toString i)) H) : rStrI [.int i] H Q := ⟨i, rfl, log_small hz, h⟩
theorem b_lst {a : Addr} {xs : List V} (hs : SqL K H a xs) (h : ∀ p H2, H p = none → Same H H2 → H2 p = some (.lst xs) → Q (.ref p) H2) : rLst K [.ref a] H Q := ⟨a, xs, rfl, .inl hs, new_same h⟩
theorem e_joined (h : tJs ts Str.empty σ H fun out H1 => Q (.str out) H1) : tJoined ts σ H Q := h
theorem j_nil {acc : Str} (h : QJ acc H) : tJs [] acc σ H QJ := h
theorem j_cons {acc : Str} (h : te σ H fun x H1 => KJ x acc ts σ H1 QJ) : tJs (te :: ts) acc σ H QJ := h
theorem k_j {acc y : Str} (hz : (acc ++ y).length ≤ sizeLine) (h : tJs ts (acc ++ y) σ H QJ) : KJ (.str y) acc ts σ H QJ := ⟨y, rfl, hz, h⟩
theorem e_fmt (h : te σ H fun x H1 => KF x H1 Q) : tFmt te σ H Q := h
theorem k_fS {y : Str} (hz : y.length ≤ sizeLine) (h : Q (.str y) H) : KF (.str y) H Q := .inl ⟨y, rfl, hz, h⟩
theorem k_fI {i : Int} (hz : i.natAbs < 10 ^ 40) (h : Q (.str (toString i)) H) : KF (.int i) H Q := .inr ⟨i, rfl, log_small hz, h⟩
end
/-! ### data of tuples -/
mutual
inductive Tp (H : Hp) : V → PyData → Prop
  | non : Tp H .non .none
  | bl (b : Bool) : Tp H (.bl b) (.bool b)
  | int (i : Int) : Tp H (.int i) (.int i)
  | str (x : Str) : Tp H (.str x) (.str x)
  | tup {a : Addr} {xs : List V} {ds : List PyData} : H a = some (.tup xs) → TpAll H xs ds → Tp H (.ref a) (.tuple ds)
inductive TpAll (H : Hp) : List V → List PyData → Prop
  | nil : TpAll H [] []
  | cons {v : V} {vs : List V} {d : PyData} {ds : List PyData} : Tp H v d → TpAll H vs ds → TpAll H (v :: vs) (d :: ds)
end
/-- the tuples stay -/
def TK (H H' : Hp) : Prop := ∀ a xs, H a = some (.tup xs) → H' a = some (.tup xs)
theorem TK.refl (H : Hp) : TK H H := fun _ _ e => e
theorem TK.trans {H H1 H2 : Hp} (a : TK H H1) (b : TK H1 H2) : TK H H2 := fun c xs e => b c xs (a c xs e)
theorem _root_.L2.Same.tk {H H' : Hp} (s : Same H H') : TK H H' := fun a xs e => s a _ e
theorem Chg.tk {l : Addr} {H H' : Hp} {ys : List V} (c : Chg l H H') (e : H l = some (.lst ys)) : TK H H' := fun a xs h => c.at h (ne_of h e (by intro z; cases z))
theorem Keep.tk {h : Addr} {H H' : Hp} {ys : List V} (c : Keep h H H') (e : H h = some (.lst ys)) : TK H H' := fun a xs q => c.at q (ne_of q e (by intro z; cases z))
theorem HandAt.keep_tk {h d : Addr} {H H' : Hp} (x : HandAt H h d) (c : Keep h H H') : TK H H' := by
  obtain ⟨n, ds, h1, _, _⟩ := x
  exact c.tk h1
theorem HandAt.chg_tk {h d : Addr} {H H' : Hp} (x : HandAt H h d) (c : Chg h H H') : TK H H' := x.keep_tk c.keep
mutual
theorem Tp.tk {H H' : Hp} (k : TK H H') : ∀ {d : PyData} {v : V}, Tp H v d → Tp H' v d
  | .none, _, h => by cases h; exact .non
  | .bool b, _, h => by cases h; exact .bl b
  | .int i, _, h => by cases h; exact .int i
  | .str x, _, h => by cases h; exact .str x
  | .tuple ds, _, h => by
    cases h with
    | tup e r => exact .tup (k _ _ e) (TpAll.tk k r)
  | .list _, _, h => by cases h
  | .dict _, _, h => by cases h
theorem TpAll.tk {H H' : Hp} (k : TK H H') : ∀ {ds : List PyData} {vs : List V}, TpAll H vs ds → TpAll H' vs ds
  | [], _, h => by cases h; exact .nil
  | d :: ds, _, h => by
    cases h with
    | cons h1 h2 => exact .cons (Tp.tk k h1) (TpAll.tk k h2)
end
mutual
theorem Tp.dp {K : PySem.W.Frag} {H : Hp} : ∀ {d : PyData} {v : V}, Tp H v d → Dp K H v d
  | .none, _, h => by cases h; exact .non
  | .bool b, _, h => by cases h; exact .bl b
  | .int i, _, h => by cases h; exact .int i
  | .str x, _, h => by cases h; exact .str x
  | .tuple ds, _, h => by
    cases h with
    | tup e r => exact .tup (tup_of e) (TpAll.dp r)
  | .list _, _, h => by cases h
  | .dict _, _, h => by cases h
theorem TpAll.dp {K : PySem.W.Frag} {H : Hp} : ∀ {ds : List PyData} {vs : List V}, TpAll H vs ds → DpAll K H vs ds
  | [], _, h => by cases h; exact .nil
  | d :: ds, _, h => by
    cases h with
    | cons h1 h2 => exact .cons (Tp.dp h1) (TpAll.dp h2)
end
theorem TpAll.get {H : Hp} : ∀ {vs : List V} {ds : List PyData} {i : Nat} {d : PyData}, TpAll H vs ds → ds[i]? = some d → ∃ v, vs[i]? = some v ∧ Tp H v d
  | _, _, _, _, .nil, h => by cases h
  | _, _, 0, _, .cons h1 _, h => by
    cases h
    exact ⟨_, rfl, h1⟩
  | _, _, i + 1, _, .cons _ h2, h => by
    obtain ⟨v, e, q⟩ := TpAll.get h2 (i := i) h
    exact ⟨v, e, q⟩
theorem TpAll.length {H : Hp} : ∀ {vs : List V} {ds : List PyData}, TpAll H vs ds → vs.length = ds.length
  | _, _, .nil => rfl
  | _, _, .cons _ h => by rw [List.length_cons, List.length_cons, h.length]
/-- a def that is never called so -/
theorem cal_never {P : Program} {w : World} {K : PySem.W.Frag} {mg : Str → Option Value} {base : Heap} {x : Str} {st : Stmt} {ps : List Str} {k : Nat} {sp : Sp} (F : DefOk K mg x st)
    (hb : ∀ f fd, FunD K x x (defArgs st) (defBody st) (defScope st) [] [] f fd → Binds K fd ps []) (no : ∀ vs H Q E, ¬ sp vs H Q E) : C8.Cal P w K mg base k x sp [] := by
  obtain ⟨f, fd, F, hm⟩ := F.ex
  exact ⟨f, fd, ps, [], ⟨fun vs H Q E h => absurd h (no _ _ _ _), fun A outer s H args us vs Q E hr he hb hv h => absurd h (no _ _ _ _)⟩, hm, F.kp, hb f fd F, .nil⟩
end Wy
open Wy
namespace W6
open PySem PySem.Spec PyProof.Rows L2 Wy
theorem uu {a c : Nat} (h : a + 64 < c) : a + 1 < c := by omega
/-! ### a table of the top: texts to tuples -/
def rKd (K : PySem.W.Frag) (d : Addr) : R2 := fun x y H Q => ∃ (z : Str) (u0 : Value) (v0 : V), x = .ref d ∧ y = .str z ∧ PySem.W.nsIn K d z = some (some u0) ∧ RelV v0 u0 ∧ Q v0 H
theorem pe_kd {X : Cx} {d : Addr} {es : Array DictEntry} {n : Nat} {o i : Expr} {pos : Pos} {td ty : TE} (D : KDict X.K X.w d es n) (ho : PE X o td) (hi : PE X i ty) (hs : NoSl i) : PE X (.Subscript o i pos) (tOp (rKd X.K d) td ty) := by
  refine ⟨fun pins s σ H Q I h => ?_⟩
  refine subD_of PySem.F.slot_dict_getitem.lookup hs (thn (ho.run pins s σ H _ I h) fun u s1 ⟨x, H1, I1, rx, q1⟩ => thn (hi.run pins s1 σ H1 _ I1 q1) fun iv s2 ⟨y, H2, I2, ry, q2⟩ => ?_)
  have q3 := q2
  obtain ⟨z, u0, v0, ex, ey, e, r, q⟩ := q2
  subst ex
  have ru : u = Value.ref d := rx
  subst ru
  exact ⟨kd_type D I2, op_item_kd D pins s2 σ H2 (.ref d) y _ iv Q I2 rfl ry q3⟩
def tupAt (K : PySem.W.Frag) (o : Option Obj) (vs : List V) : Bool := match o with
  | some ⟨.type c, none, .seq its _, _⟩ => decide (c = "tuple") && (decide (its.size ≤ sizeLine) && He.relAll vs its.toList)
  | _ => false
def keyB (K : PySem.W.Frag) (d : Addr) (z : Str) (vs : List V) : Bool := match PySem.W.nsIn K d z with
  | some (some (.ref t)) => tupAt K (K.lookup t) vs
  | _ => false
theorem tupAt_ok {K : PySem.W.Frag} {t : Addr} {vs : List V} (h : tupAt K (K.lookup t) vs = true) (H : Hp) : SqT K H t vs := by
  unfold tupAt at h
  split at h
  · rename_i c its n sl e
    obtain ⟨h1, h2⟩ := He.ba h
    obtain ⟨h3, h4⟩ := He.ba h2
    exact .inr ⟨_, its, n, e, congrArg Value.type (of_decide_eq_true h1), rfl, of_decide_eq_true h3, He.relAll_ok h4⟩
  · cases h
theorem keyB_ok {K : PySem.W.Frag} {d : Addr} {z : Str} {vs : List V} (h : keyB K d z vs = true) : ∃ t, PySem.W.nsIn K d z = some (some (.ref t)) ∧ ∀ H, SqT K H t vs := by
  unfold keyB at h
  split at h
  · rename_i t e
    exact ⟨t, e, fun H => tupAt_ok h H⟩
  · cases h
theorem o_kd {K : PySem.W.Frag} {H : Hp} {Q : VK} {d t : Addr} {z : Str} (e : PySem.W.nsIn K d z = some (some (.ref t))) (q : Q (.ref t) H) : rKd K d (.ref d) (.str z) H Q := ⟨z, _, .ref t, rfl, rfl, e, rfl, q⟩
def rTup (K : PySem.W.Frag) : List V → Hp → VK → Prop := fun xs H Q => ∃ p ys, xs = [.ref p] ∧ ((SqL K H p ys ∧ ∀ l, H l = none → Q (.ref l) (upd H l (.tup ys))) ∨ (SqT K H p ys ∧ Q (.ref p) H))
theorem call_tup2 {X : Cx} : CallR X (.type "tuple") (rTup X.K) := call_tuple_of
theorem b_tup {K : PySem.W.Frag} {H : Hp} {Q : VK} {a : Addr} {xs : List V} (hs : SqL K H a xs) (h : ∀ p H2, H p = none → Same H H2 → H2 p = some (.tup xs) → Q (.ref p) H2) : rTup K [.ref a] H Q := ⟨a, xs, rfl, .inl ⟨hs, new_same h⟩⟩
end W6
namespace WD
open PySem PySem.Spec PyProof.Rows L2 Wy
theorem uu {a c : Nat} (h : a + 64 < c) : a + 1 < c := by omega
/-! ### dicts of texts -/
def rLnD : List V → Hp → VK → Prop := fun xs H Q => ∃ a kvs, xs = [.ref a] ∧ H a = some (.dK kvs) ∧ Q (.int (kvs.length : Nat)) H
theorem call_lenD {X : Cx} : CallR X (.builtin "len") rLnD := by
  intro pins s σ H xs us Q I r h
  obtain ⟨p, kvs, rfl, hk, q⟩ := h
  obtain ⟨u, eu, rx⟩ := vals1 r
  subst eu
  obtain rfl : u = Value.ref p := rx
  exact d_len I (.inl hk) fun t s' I' => ⟨.int (kvs.length : Nat), H, I', ⟨t, rfl⟩, q⟩
section
variable {K : PySem.W.Frag} {σ : L2.St} {H : Hp} {Q : VK} {td ty tv : TE} {D : Ends}
def KD (x y : V) (H : Hp) (Q : VK) : Prop := ∃ a v, x = .ref a ∧ DGet H a y (some v) ∧ Q v H
def KP (v x y : V) (σ : L2.St) (H : Hp) (N : L2.St → Hp → Prop) : Prop := ∃ a H4, x = .ref a ∧ DPut H a y v H4 ∧ N σ H4
theorem e_dnew (h : ∀ p H2, H p = none → Same H H2 → H2 p = some (.dK []) → Q (.ref p) H2) : tDNewK σ H Q := new_same h
theorem e_dget (h : td σ H fun x H1 => ty σ H1 fun y H2 => KD x y H2 Q) : tDGet td ty σ H Q := h
theorem k_d {a : Addr} {kvs : List (Key × V)} {n : Str} {v : V} (e : H a = some (.dK kvs)) (g : valV kvs (.inr n) = some v) (h : Q v H) : KD (.ref a) (.str n) H Q :=
  ⟨a, v, rfl, g ▸ DGet.k (k := .inr n) e, h⟩
theorem s_dput (h : tv σ H fun v H1 => td σ H1 fun x H2 => ty σ H2 fun y H3 => KP v x y σ H3 D.nx) : sDPut td ty tv D σ H := h
theorem k_p {a : Addr} {kvs : List (Key × V)} {n : Str} {v : V} {N : L2.St → Hp → Prop} (e : H a = some (.dK kvs)) (hl : kvs.length < sizeLine) (h : ∀ H2, Chg a H H2 → H2 a = some (.dK (putK kvs (.inr n) v)) → N σ H2) :
    KP v (.ref a) (.str n) σ H N := ⟨a, _, rfl, DPut.k (k := .inr n) e hl, h _ chg_upd upd_same⟩
theorem b_lenD {a : Addr} {kvs : List (Key × V)} (e : H a = some (.dK kvs)) (h : Q (.int (kvs.length : Nat)) H) : rLnD [.ref a] H Q := ⟨a, kvs, rfl, e, h⟩
theorem b_lstD {a : Addr} {kvs : List (Key × V)} (e : H a = some (.dK kvs)) (h : ∀ p H2, H p = none → Same H H2 → H2 p = some (.lst (kvs.map fun kv => kV kv.1)) → Q (.ref p) H2) : rListD [.ref a] H Q := ⟨a, kvs, rfl, e, new_same h⟩
def rTup (K : PySem.W.Frag) : List V → Hp → VK → Prop := fun xs H Q => ∃ p ys, xs = [.ref p] ∧ ((SqL K H p ys ∧ ∀ l, H l = none → Q (.ref l) (upd H l (.tup ys))) ∨ (SqT K H p ys ∧ Q (.ref p) H))
theorem call_tup2 {X : Cx} : CallR X (.type "tuple") (rTup X.K) := call_tuple_of
theorem b_tup {a : Addr} {xs : List V} (hs : SqL K H a xs) (h : ∀ p H2, H p = none → Same H H2 → H2 p = some (.tup xs) → Q (.ref p) H2) : rTup K [.ref a] H Q := ⟨a, xs, rfl, .inl ⟨hs, new_same h⟩⟩
theorem m_idx {a : Addr} {ys : List V} {y : V} {j : Nat} {z : V} (hs : SqL K H a ys) (f1 : flatV y = true) (f2 : ys.all flatV = true) (g : ys[j]? = some z) (e : eqV z y = true)
    (no : ∀ (m : Nat) (z' : V), m < j → ys[m]? = some z' → eqV z' y = false) (h : Q (.int (j : Nat)) H) : rIndex K (.ref a) [y] H Q := ⟨a, ys, y, j, z, rfl, rfl, hs, f1, f2, g, e, no, h⟩
end
/-- the names with their values, as far as there are values -/
def kv (ns : List Str) (vs : List V) : List (Key × V) := (ns.zip vs).map fun p => (.inr p.1, p.2)
theorem kv_len {ns : List Str} {vs : List V} (h : vs.length ≤ ns.length) : (kv ns vs).length = vs.length := by
  unfold kv
  rw [List.length_map, List.length_zip]
  omega
theorem kv_get : ∀ {ns : List Str} {vs : List V} {j : Nat} {n : Str} {v : V}, ns.Nodup → ns[j]? = some n → vs[j]? = some v → valV (kv ns vs) (.inr n) = some v
  | [], _, _, _, _, _, h, _ => by cases h
  | _ :: _, [], _, _, _, _, _, h => by cases h
  | m :: ns, u :: vs, 0, n, v, _, h1, h2 => by
    cases h1
    cases h2
    exact valV_pos (p := (Sum.inr m, u)) rfl
  | m :: ns, u :: vs, j + 1, n, v, hd, h1, h2 => by
    have h1 : ns[j]? = some n := h1
    have h2 : vs[j]? = some v := h2
    have hd := List.nodup_cons.mp hd
    have ne : ¬ (Sum.inr m : Key) = Sum.inr n := fun e => hd.1 (by
      have e2 : m = n := Sum.inr.inj e
      rw [e2]
      exact List.mem_of_getElem? h1)
    exact (valV_neg (p := (Sum.inr m, u)) ne).trans (kv_get hd.2 h1 h2)
theorem zip_fst : ∀ (ns : List Str) (vs : List V), (ns.zip vs).map Prod.fst = ns.take vs.length
  | [], _ => by simp
  | _ :: _, [] => rfl
  | n :: ns, _ :: vs => congrArg (n :: ·) (zip_fst ns vs)
theorem zip_cut : ∀ (ns : List Str) (vs : List V), ns.zip vs = (ns.take vs.length).zip vs
  | [], _ => by simp
  | _ :: _, [] => rfl
  | n :: ns, v :: vs => congrArg ((n, v) :: ·) (zip_cut ns vs)
theorem kv_any {ns : List Str} {vs : List V} {n : Str} : ((kv ns vs).any fun p => decide (p.1 = (.inr n : Key))) = true ↔ n ∈ (ns.take vs.length) := by
  unfold kv
  rw [List.any_map, List.any_eq_true]
  constructor
  · rintro ⟨⟨a, b⟩, hm, h⟩
    have h : (Sum.inr a : Key) = Sum.inr n := of_decide_eq_true h
    have e : a = n := Sum.inr.inj h
    subst e
    have : a ∈ (ns.zip vs).map Prod.fst := List.mem_map.mpr ⟨_, hm, rfl⟩
    rw [zip_fst] at this
    exact this
  · intro h
    have : n ∈ (ns.zip vs).map Prod.fst := by
      rw [zip_fst]
      exact h
    obtain ⟨⟨a, b⟩, hm, e⟩ := List.mem_map.mp this
    exact ⟨(a, b), hm, decide_eq_true (by rw [← e])⟩
theorem kv_new {ns : List Str} {vs : List V} {n : Str} {v : V} (hd : ns.Nodup) (h : ns[vs.length]? = some n) : putK (kv ns vs) (.inr n) v = kv ns (vs ++ [v]) := by
  have no : n ∉ ns.take vs.length := by
    intro hm
    obtain ⟨i, hi, e⟩ := List.getElem_of_mem hm
    obtain ⟨hl, e2⟩ := List.getElem?_eq_some_iff.mp h
    rw [List.length_take] at hi
    rw [List.getElem_take] at e
    have := (List.getElem_inj hd).mp (e.trans e2.symm)
    omega
  unfold putK
  rw [if_neg (fun e => no (kv_any.mp e))]
  unfold kv
  obtain ⟨hl, e2⟩ := List.getElem?_eq_some_iff.mp h
  have e3 : ns = ns.take vs.length ++ n :: ns.drop (vs.length + 1) := by
    rw [← e2, List.getElem_cons_drop, List.take_append_drop]
  have e4 : ns.zip vs = (ns.take vs.length).zip vs := zip_cut ns vs
  have l1 : (ns.take vs.length).length = vs.length := by rw [List.length_take]; omega
  have e5 : ns.zip (vs ++ [v]) = (ns.take vs.length).zip vs ++ [(n, v)] := by
    conv => lhs; rw [e3]
    rw [List.zip_append l1]
    simp
  rw [e4, e5, List.map_append]
  rfl
theorem kv_set : ∀ {ns : List Str} {vs : List V} {j : Nat} {n : Str} {v : V}, ns.Nodup → ns[j]? = some n → j < vs.length → (kv ns vs).map (fun p => if p.1 = (.inr n : Key) then (p.1, v) else p) = kv ns (vs.set j v)
  | [], _, _, _, _, _, h, _ => by cases h
  | _ :: _, [], _, _, _, _, _, h => absurd h (Nat.not_lt_zero _)
  | m :: ns, u :: vs, 0, n, v, hd, h1, h2 => by
    cases h1
    have hd := List.nodup_cons.mp hd
    show (if (Sum.inr m : Key) = Sum.inr m then _ else _) :: _ = (_ :: _ : List (Key × V))
    rw [if_pos rfl]
    refine congrArg (_ :: ·) ?_
    refine (List.map_congr_left fun p hp => ?_).trans (List.map_id _)
    obtain ⟨⟨a, b⟩, hm, e⟩ := List.mem_map.mp hp
    rw [if_neg ?_]
    · rfl
    · rw [← e]
      intro e2
      exact hd.1 (Sum.inr.inj e2 ▸ (List.of_mem_zip hm).1)
  | m :: ns, u :: vs, j + 1, n, v, hd, h1, h2 => by
    have h1 : ns[j]? = some n := h1
    have hd := List.nodup_cons.mp hd
    have ne : ¬ (Sum.inr m : Key) = Sum.inr n := fun e => hd.1 (by
      have e2 : m = n := Sum.inr.inj e
      rw [e2]
      exact List.mem_of_getElem? h1)
    show (if (Sum.inr m : Key) = Sum.inr n then _ else _) :: _ = (_ :: _ : List (Key × V))
    rw [if_neg ne]
    exact congrArg (_ :: ·) (kv_set hd.2 h1 (Nat.lt_of_succ_lt_succ h2))
theorem kv_put {ns : List Str} {vs : List V} {j : Nat} {n : Str} {v : V} (hd : ns.Nodup) (h : ns[j]? = some n) (hj : j < vs.length) : putK (kv ns vs) (.inr n) v = kv ns (vs.set j v) := by
  obtain ⟨hl, e2⟩ := List.getElem?_eq_some_iff.mp h
  have hm : n ∈ ns.take vs.length := by
    rw [← e2]
    exact List.mem_take_iff_getElem.mpr ⟨j, by omega, rfl⟩
  unfold putK
  rw [if_pos (kv_any.mpr hm)]
  exact kv_set hd h hj
theorem kv_keys {ns : List Str} {vs : List V} (h : vs.length = ns.length) : (kv ns vs).map (fun p => kV p.1) = ns.map V.str := by
  unfold kv
  rw [List.map_map]
  have : ((fun p : Key × V => kV p.1) ∘ fun p : Str × V => ((.inr p.1 : Key), p.2)) = V.str ∘ Prod.fst := rfl
  rw [this, ← List.map_map, List.map_fst_zip (by omega)]
/-! ### the questions and their answers -/
inductive X9 where
  | num (n : Int)
  | var (k : Nat) (p : Int)
  | item (j : Nat) (i : X9) (p : Int)
abbrev nm (ns : List Str) (k : Nat) : Str := ns.getD k ""
def X9.d (ns : List Str) : X9 → PyData
  | .num n => .tuple [.str "num", .int n]
  | .var k p => .tuple [.str "var", .str (nm ns k), .int p]
  | .item j i p => .tuple [.str "item", .str (nm ns (4 + j)), i.d ns, .int p]
def X9.plain : X9 → Prop
  | .num _ => True
  | .var k _ => k < 4
  | .item _ _ _ => False
def X9.good : X9 → Prop
  | .num _ => True
  | .var k _ => k < 4
  | .item j i _ => j < 2 ∧ i.plain
theorem X9.plain.good {e : X9} (h : e.plain) : e.good := by
  cases e with
  | num _ => exact True.intro
  | var _ _ => exact h
  | item _ _ _ => exact h.elim
def X9.dep : X9 → Nat
  | .item _ _ _ => 1
  | _ => 0
theorem X9.plain.dep {e : X9} (h : e.plain) : e.dep = 0 := by
  cases e with
  | num _ => rfl
  | var _ _ => rfl
  | item _ _ _ => exact h.elim
theorem X9.dep_le (e : X9) : e.dep < 2 := by
  cases e <;> simp [X9.dep]
def X9.ev (is : List Int) (ls : List (List Int)) : X9 → Option Int
  | .num n => some n
  | .var k p => some (is.getD k 0 + p)
  | .item j i p => match i.ev is ls with
    | none => none
    | some a => if 0 ≤ a ∧ a < (ls.getD j []).length then some ((ls.getD j []).getD a.toNat 0 + p) else none
def oI : Option Int → V
  | none => .non
  | some i => .int i
def oB : Option Bool → V
  | none => .non
  | some b => .bl b
theorem X9.plain.ev {e : X9} (h : e.plain) (is : List Int) (ls : List (List Int)) : ∃ i, e.ev is ls = some i := by
  cases e with
  | num n => exact ⟨n, rfl⟩
  | var k p => exact ⟨_, rfl⟩
  | item _ _ _ => exact h.elim
abbrev SG : List Str := ["<", "<=", ">", ">=", "==", "!="]
def cmpB : Nat → Int → Int → Bool
  | 0, a, b => decide (a < b)
  | 1, a, b => decide (a ≤ b)
  | 2, a, b => decide (a > b)
  | 3, a, b => decide (a ≥ b)
  | 4, a, b => decide (a = b)
  | _, a, b => !decide (a = b)
inductive Cn where
  | cmp (k : Nat) (l r : X9)
  | no (c : Cn)
  | jn (o : Bool) (cs : List Cn)
abbrev jw (o : Bool) : Str := if o then "or" else "and"
mutual
def Cn.d (ns : List Str) : Cn → PyData
  | .cmp k l r => .tuple [.str "cmp", .str (SG.getD k ""), l.d ns, r.d ns]
  | .no c => .tuple [.str "not", c.d ns]
  | .jn o cs => .tuple [.str (jw o), .tuple (Cn.ds ns cs)]
def Cn.ds (ns : List Str) : List Cn → List PyData
  | [] => []
  | c :: cs => c.d ns :: Cn.ds ns cs
end
mutual
def Cn.ok : Nat → Cn → Prop
  | _, .cmp k l r => k < 6 ∧ l.good ∧ r.good
  | 0, .no _ => False
  | n + 1, .no c => c.ok n
  | 0, .jn _ _ => False
  | n + 1, .jn _ cs => Cn.oks n cs
def Cn.oks : Nat → List Cn → Prop
  | _, [] => True
  | n, c :: cs => c.ok n ∧ Cn.oks n cs
end
def cmpO (k : Nat) : Option Int → Option Int → Option Bool
  | some a, some b => some (cmpB k a b)
  | _, _ => none
mutual
def Cn.ev (is : List Int) (ls : List (List Int)) : Cn → Option Bool
  | .cmp k l r => cmpO k (l.ev is ls) (r.ev is ls)
  | .no c => (c.ev is ls).map fun b => !b
  | .jn o cs => Cn.evs is ls o cs
def Cn.evs (is : List Int) (ls : List (List Int)) (o : Bool) : List Cn → Option Bool
  | [] => some (!o)
  | c :: cs => match c.ev is ls with
    | none => none
    | some b => if b = o then some b else Cn.evs is ls o cs
end
theorem Cn.ds_get {ns : List Str} : ∀ {cs : List Cn} {i : Nat} {c : Cn}, cs[i]? = some c → (Cn.ds ns cs)[i]? = some (c.d ns)
  | [], _, _, h => by cases h
  | c :: cs, 0, _, h => by
    cases h
    rfl
  | c :: cs, i + 1, _, h => by
    have h : cs[i]? = some _ := h
    exact Cn.ds_get (cs := cs) (i := i) h
theorem Cn.ds_len {ns : List Str} : ∀ {cs : List Cn}, (Cn.ds ns cs).length = cs.length
  | [] => rfl
  | c :: cs => congrArg (· + 1) Cn.ds_len
theorem Cn.ds_snoc {ns : List Str} {c : Cn} : ∀ {cs : List Cn}, Cn.ds ns (cs ++ [c]) = Cn.ds ns cs ++ [c.d ns]
  | [] => rfl
  | _ :: _ => congrArg (_ :: ·) Cn.ds_snoc
theorem Cn.oks_get {n : Nat} : ∀ {cs : List Cn} {i : Nat} {c : Cn}, Cn.oks n cs → cs[i]? = some c → c.ok n
  | [], _, _, _, h => by cases h
  | c :: cs, 0, _, g, h => by
    cases h
    exact g.1
  | c :: cs, i + 1, _, g, h => by
    have h : cs[i]? = some _ := h
    exact Cn.oks_get g.2 h
theorem Cn.oks_snoc {n : Nat} {c : Cn} : ∀ {cs : List Cn}, Cn.oks n cs → c.ok n → Cn.oks n (cs ++ [c])
  | [], _, h => ⟨h, True.intro⟩
  | _ :: _, g, h => ⟨g.1, Cn.oks_snoc g.2 h⟩
theorem Cn.evs_drop {is : List Int} {ls : List (List Int)} {o : Bool} {cs : List Cn} {i : Nat} {c : Cn} (h : cs[i]? = some c) :
    Cn.evs is ls o (cs.drop i) = match c.ev is ls with | none => none | some b => if b = o then some b else Cn.evs is ls o (cs.drop (i + 1)) := by
  obtain ⟨hl, e⟩ := List.getElem?_eq_some_iff.mp h
  rw [List.drop_eq_getElem_cons hl, e]
  rfl
/-! ### the parts of the data -/
theorem tp4 {H : Hp} {v : V} {d1 d2 d3 d4 : PyData} (h : Tp H v (.tuple [d1, d2, d3, d4])) : ∃ a v1 v2 v3 v4, v = .ref a ∧ H a = some (.tup [v1, v2, v3, v4]) ∧ Tp H v1 d1 ∧ Tp H v2 d2 ∧ Tp H v3 d3 ∧ Tp H v4 d4 := by
  cases h with
  | tup e r =>
    cases r with | cons h1 r => cases r with | cons h2 r => cases r with | cons h3 r => cases r with | cons h4 r =>
      cases r
      exact ⟨_, _, _, _, _, rfl, e, h1, h2, h3, h4⟩
theorem tp3 {H : Hp} {v : V} {d1 d2 d3 : PyData} (h : Tp H v (.tuple [d1, d2, d3])) : ∃ a v1 v2 v3, v = .ref a ∧ H a = some (.tup [v1, v2, v3]) ∧ Tp H v1 d1 ∧ Tp H v2 d2 ∧ Tp H v3 d3 := by
  cases h with
  | tup e r =>
    cases r with | cons h1 r => cases r with | cons h2 r => cases r with | cons h3 r =>
      cases r
      exact ⟨_, _, _, _, rfl, e, h1, h2, h3⟩
theorem tp2 {H : Hp} {v : V} {d1 d2 : PyData} (h : Tp H v (.tuple [d1, d2])) : ∃ a v1 v2, v = .ref a ∧ H a = some (.tup [v1, v2]) ∧ Tp H v1 d1 ∧ Tp H v2 d2 := by
  cases h with
  | tup e r =>
    cases r with | cons h1 r => cases r with | cons h2 r =>
      cases r
      exact ⟨_, _, _, rfl, e, h1, h2⟩
theorem tpL {H : Hp} {v : V} {ds : List PyData} (h : Tp H v (.tuple ds)) : ∃ a vs, v = .ref a ∧ H a = some (.tup vs) ∧ TpAll H vs ds := by
  cases h with
  | tup e r => exact ⟨_, _, rfl, e, r⟩
theorem tp_str {H : Hp} {v : V} {x : Str} (h : Tp H v (.str x)) : v = .str x := by
  cases h
  rfl
theorem tp_int {H : Hp} {v : V} {x : Int} (h : Tp H v (.int x)) : v = .int x := by
  cases h
  rfl
theorem tpSnoc {H : Hp} {v : V} {d : PyData} : ∀ {vs : List V} {ds : List PyData}, TpAll H vs ds → Tp H v d → TpAll H (vs ++ [v]) (ds ++ [d])
  | _, _, .nil, h => .cons h .nil
  | _, _, .cons h1 h2, h => .cons h1 (tpSnoc h2 h)
/-! ### the variables -/
def CellAt (H : Hp) (is : List Int) (ls : List (List Int)) (j : Nat) (v : V) : Prop :=
  (∃ x, is[j]? = some x ∧ v = .int x) ∨ ∃ a xs, 4 ≤ j ∧ ls[j - 4]? = some xs ∧ v = .ref a ∧ H a = some (.lst (xs.map V.int))
theorem CellAt.same {H H' : Hp} {is : List Int} {ls : List (List Int)} {j : Nat} {v : V} (s : Same H H') (c : CellAt H is ls j v) : CellAt H' is ls j v := by
  rcases c with c | ⟨a, xs, h1, h2, h3, h4⟩
  · exact .inl c
  · exact .inr ⟨a, xs, h1, h2, h3, s _ _ h4⟩
def EnvAt (H : Hp) (p : Addr) (ns : List Str) (is : List Int) (ls : List (List Int)) : Prop :=
  is.length = 4 ∧ ls.length = 2 ∧ ns.length = 6 ∧ ns.Nodup ∧ ∃ vs : List V, vs.length = 6 ∧ H p = some (.dK (kv ns vs)) ∧ ∀ j v, vs[j]? = some v → CellAt H is ls j v
theorem EnvAt.same {H H' : Hp} {p : Addr} {ns : List Str} {is : List Int} {ls : List (List Int)} (s : Same H H') (e : EnvAt H p ns is ls) : EnvAt H' p ns is ls := by
  obtain ⟨h1, h2, h3, h4, vs, h5, h6, h7⟩ := e
  exact ⟨h1, h2, h3, h4, vs, h5, s _ _ h6, fun j v g => (h7 j v g).same s⟩
theorem nm_at {ns : List Str} {k : Nat} (h : k < ns.length) : ns[k]? = some (nm ns k) := by
  unfold nm
  rw [List.getD_eq_getElem?_getD, List.getElem?_eq_getElem h]
  rfl
/-- a number out of the variables -/
theorem EnvAt.int {H : Hp} {p : Addr} {ns : List Str} {is : List Int} {ls : List (List Int)} (e : EnvAt H p ns is ls) {k : Nat} (hk : k < 4) : ∃ kvs, H p = some (.dK kvs) ∧ valV kvs (.inr (nm ns k)) = some (.int (is.getD k 0)) := by
  obtain ⟨h1, h2, h3, h4, vs, h5, h6, h7⟩ := e
  have g : vs[k]? = some vs[k] := List.getElem?_eq_getElem (by omega)
  refine ⟨_, h6, ?_⟩
  have e := kv_get h4 (nm_at (by omega)) g
  rw [e]
  rcases h7 k _ g with ⟨x, c1, c2⟩ | ⟨a, xs, c1, _⟩
  · rw [c2, List.getD_eq_getElem?_getD, c1]
    rfl
  · omega
theorem EnvAt.lst {H : Hp} {p : Addr} {ns : List Str} {is : List Int} {ls : List (List Int)} (e : EnvAt H p ns is ls) {j : Nat} (hj : j < 2) :
    ∃ kvs a, H p = some (.dK kvs) ∧ valV kvs (.inr (nm ns (4 + j))) = some (.ref a) ∧ H a = some (.lst ((ls.getD j []).map V.int)) := by
  obtain ⟨h1, h2, h3, h4, vs, h5, h6, h7⟩ := e
  have g : vs[4 + j]? = some vs[4 + j] := List.getElem?_eq_getElem (by omega)
  have e := kv_get h4 (nm_at (by omega)) g
  rcases h7 _ _ g with ⟨x, c1, c2⟩ | ⟨a, xs, c1, c2, c3, c4⟩
  · have := (List.getElem?_eq_some_iff.mp c1).1
    omega
  · refine ⟨_, a, h6, by rw [e, c3], ?_⟩
    have e2 : ls.getD j [] = xs := by
      rw [List.getD_eq_getElem?_getD]
      rw [show 4 + j - 4 = j by omega] at c2
      rw [c2]
      rfl
    rw [e2]
    exact c4
/-! ### the names -/
abbrev PADS : List Str := ["", "u", "zzzzzzzzzzz", "uz"]
def let9 (k : Nat) : Str := ⟨#[("abcdxy" : Str).cps.toList.getD k 0]⟩
def namesOf (k : Nat) : List Str := (PADS.map fun p => let9 k ++ p) ++ PADS.map fun p => p ++ let9 k
theorem names_apart : ∀ i, i < 6 → ∀ j, j < 6 → i ≠ j → ∀ x ∈ namesOf i, ∀ y ∈ namesOf j, x ≠ y := by decide +kernel
def NamesOk (ns : List Str) : Prop := ∀ i n, ns[i]? = some n → n ∈ namesOf i
theorem names_nodup {ns : List Str} (h : NamesOk ns) (hl : ns.length ≤ 6) : ns.Nodup := by
  rw [List.nodup_iff_pairwise_ne, List.pairwise_iff_getElem]
  intro i j hi hj lt
  exact names_apart i (by omega) j (by omega) (by omega) _ (h i _ (List.getElem?_eq_getElem hi)) _ (h j _ (List.getElem?_eq_getElem hj))
end WD
/-! WN: more rules and steps. -/
namespace WN
open PySem PySem.Spec PyProof.Rows L2 Wy
theorem sm {H H' : Hp} {a : Addr} {o : HO} (s : Same H H') (h : H a = some o) : H' a = some o := s _ _ h
theorem cm {l : Addr} {H H' : Hp} {a : Addr} {o : HO} (c : Chg l H H') (n : a ≠ l) (h : H a = some o) : H' a = some o := c.at h n
theorem ne_new {H : Hp} {a l : Addr} {o : HO} (n : H l = none) (h : H a = some o) : a ≠ l := ne_of_none h n
theorem iteTT {b : Bool} {A B : Prop} (e : b = true) (h : A) : if b = true then A else B := by
  rw [if_pos e]
  exact h
theorem iteFF {b : Bool} {A B : Prop} (e : b = false) (h : B) : if b = true then A else B := by
  rw [if_neg (by rw [e]; exact Bool.false_ne_true)]
  exact h
theorem iteB {b : Bool} {A B : Prop} (h1 : b = true → A) (h2 : b = false → B) : if b = true then A else B := by
  cases b with
  | true => exact iteTT rfl (h1 rfl)
  | false => exact iteFF rfl (h2 rfl)
/-- a decided question -/
theorem iteD {p : Prop} [Decidable p] {A B : Prop} (h1 : p → A) (h2 : ¬ p → B) : if decide p = true then A else B := ite2 (fun e => h1 (of_decide_eq_true e)) fun e => h2 fun x => e (decide_eq_true x)
theorem iteND {p : Prop} [Decidable p] {A B : Prop} (h1 : ¬ p → A) (h2 : p → B) : if (!decide p) = true then A else B := by
  by_cases h : p
  · exact iteFF (by rw [decide_eq_true h]; rfl) (h2 h)
  · exact iteTT (by rw [decide_eq_false h]; rfl) (h1 h)
theorem nRN (a : Addr) : decide (V.ref a = V.non) = false := decide_eq_false (fun e => nomatch e)
theorem nIN (a : Int) : decide (V.int a = V.non) = false := decide_eq_false (fun e => nomatch e)
theorem nSN (a : Str) : decide (V.str a = V.non) = false := decide_eq_false (fun e => nomatch e)
theorem nBN (a : Bool) : decide (V.bl a = V.non) = false := decide_eq_false (fun e => nomatch e)
theorem nNRN (a : Addr) : (!decide (V.ref a = V.non)) = true := by rw [nRN]; rfl
theorem nNIN (a : Int) : (!decide (V.int a = V.non)) = true := by rw [nIN]; rfl
theorem nNSN (a : Str) : (!decide (V.str a = V.non)) = true := by rw [nSN]; rfl
theorem nNBN (a : Bool) : (!decide (V.bl a = V.non)) = true := by rw [nBN]; rfl
theorem dI (a b : Int) : decide (V.int a = V.int b) = decide (a = b) := by
  by_cases h : a = b
  · subst h
    rw [decide_eq_true rfl, decide_eq_true rfl]
  · rw [decide_eq_false h, decide_eq_false (fun e => h (V.int.inj e))]
theorem iteI {i j : Int} {A B : Prop} (h1 : i = j → A) (h2 : ¬ i = j → B) : if decide (V.int i = V.int j) = true then A else B := by
  rw [dI]
  exact iteD h1 h2
theorem iteNI {i j : Int} {A B : Prop} (h1 : ¬ i = j → A) (h2 : i = j → B) : if (!decide (V.int i = V.int j)) = true then A else B := by
  rw [dI]
  exact iteND h1 h2
theorem free_of {H H' : Hp} {a : Addr} (n : H' a = none) (s : Same H H') : H a = none := s.free n
theorem dB (a b : Bool) : decide (V.bl a = V.bl b) = decide (a = b) := by cases a <;> cases b <;> rfl
section
variable {X : Cx}
def rAll2 (K : PySem.W.Frag) : List V → Hp → VK → Prop := rAll K
theorem call_all2 (hc : X.calm = true) : CallR X (.builtin "all") (rAll2 X.K) := cr_all hc
def rSum2 (K : PySem.W.Frag) : List V → Hp → VK → Prop := rSum K
theorem call_sum2 (hc : X.calm = true) : CallR X (.builtin "sum") (rSum2 X.K) := cr_sum hc
def rMx2 (_ : PySem.W.Frag) : List V → Hp → VK → Prop := fun xs H Q => ∃ i j, xs = [.int i, .int j] ∧ Q (.int (if j > i then j else i)) H
theorem call_mx2 (hc : X.calm = true) : CallR X (.builtin "max") (rMx2 X.K) := call_max2 hc
def rMn2 (_ : PySem.W.Frag) : List V → Hp → VK → Prop := fun xs H Q => ∃ i j, xs = [.int i, .int j] ∧ Q (.int (if j < i then j else i)) H
theorem call_mn2 (hc : X.calm = true) : CallR X (.builtin "min") (rMn2 X.K) := call_min2 hc
def rIsi2 (K : PySem.W.Frag) : List V → Hp → VK → Prop := fun xs H Q => rIsi K xs H Q ∨ rIsiT K xs H Q
theorem call_isi2 : CallR X (.builtin "isinstance") (rIsi2 X.K) := Wy.CallR.or call_isi call_isiT
/-- a call of a built-in that wants calm -/
theorem pe_callC {id : String} {x : Str} {e : Expr} {es : List Expr} {p pos : Pos} {t : TA} {r : PySem.W.Frag → List V → Hp → VK → Prop} (hc : ∀ X : Cx, X.calm = true → CallR X (.builtin id) (r X.K)) (hg : Gl X x) (hm : X.mg x = none) (hv : bootBuiltins x = some (.builtin id)) (ha : PA X (e :: es) t) (hcalm : X.calm = true := by rfl) (hn : x ≠ "__name__" := by decide) (hdb : (x == ("__debug__" : Str)) = false := by decide)
    (he : starEach (e :: es) X.env = (false, eval e X.env) :: starEach es X.env := by rfl) (hpl : (backTo pos (starEach es X.env)).any (·.1) = false := by rfl) : PE X (.Call (.Name x p) (e :: es) [] pos) (tCB (r X.K) t) :=
  pe_callB (hc X hcalm) hg hm hv ha hn hdb he hpl
theorem cc_all (X : Cx) (h : X.calm = true) : CallR X (.builtin "all") (rAll2 X.K) := call_all2 h
theorem cc_sum (X : Cx) (h : X.calm = true) : CallR X (.builtin "sum") (rSum2 X.K) := call_sum2 h
theorem cc_max (X : Cx) (h : X.calm = true) : CallR X (.builtin "max") (rMx2 X.K) := call_mx2 h
theorem cc_min (X : Cx) (h : X.calm = true) : CallR X (.builtin "min") (rMn2 X.K) := call_mn2 h
/-- repr of data -/
def rRepr (K : PySem.W.Frag) : List V → Hp → VK → Prop := fun xs H Q => ∃ (a : Addr) (d : PyData), xs = [.ref a] ∧ Dp K H (.ref a) d ∧ d.showable = true ∧ d.hasDict = false ∧ d.depth ≤ 60 ∧ d.shown.length ≤ sizeLine ∧ Q (.str d.shown) H
end
section
variable {K : PySem.W.Frag} {H : Hp} {Q : VK} {v x y : V} {b : Bool}
theorem o_fdW {f : Int → Int → V} {i j : Int} (h1 : 0 < j) (h2 : j ≤ 10 ^ 90) (h : Q (f i j) H) : rI CDivW f (.int i) (.int j) H Q :=
  ⟨i, j, rfl, rfl, wide_div (b := 400) h1 (by
    have : (10 : Int) ^ 90 < 2 ^ 400 := by decide +kernel
    omega) (by decide) (by decide), h⟩
/-- a rest, its bounds alone -/
theorem o_modG {i j : Int} (h1 : 0 < j) (h : ∀ r : Int, 0 ≤ r → r < j → Q (.int r) H) : rI (fun _ j => 0 < j) (fun i j => .int (i % j)) (.int i) (.int j) H Q := o_mod h1 (h _ (Int.emod_nonneg _ (by omega)) (Int.emod_lt_of_pos _ h1))
theorem b_all {a : Addr} {bs : List Bool} (hs : SqL K H a (bs.map V.bl)) (h : Q (.bl (bs.all id)) H) : rAll2 K [.ref a] H Q := ⟨a, bs, rfl, hs, h⟩
theorem b_sum {a : Addr} {ns : List Int} (hs : SqL K H a (ns.map V.int)) (h : Q (.int ns.sum) H) : rSum2 K [.ref a] H Q := ⟨a, ns, rfl, hs, h⟩
theorem b_mx {i j : Int} (h : Q (.int (max i j)) H) : rMx2 K [.int i, .int j] H Q := ⟨i, j, rfl, by
  have e : (if j > i then j else i) = max i j := by split <;> omega
  rw [e]
  exact h⟩
theorem b_mn {i j : Int} (h : Q (.int (min i j)) H) : rMn2 K [.int i, .int j] H Q := ⟨i, j, rfl, by
  have e : (if j < i then j else i) = min i j := by split <;> omega
  rw [e]
  exact h⟩
theorem b_is2 {n : String} {x : V} {tv : Value} (ty : TyX K H x tv) (h : PySem.W.kitOne K tv (.type n) = some b) (q : Q (.bl b) H) : rIsi2 K [x, .ty n] H Q := .inl (b_isi ty h q)
theorem ls_new {a : Addr} {xs : List V} (hs : SqL K H a xs) (h : ∀ p H2, H p = none → Same H H2 → H2 p = some (.lst xs) → Q (.ref p) H2) : rLst K [.ref a] H Q := ⟨a, xs, rfl, .inl hs, new_same h⟩
theorem ls_newT {a : Addr} {xs : List V} (hs : SqT K H a xs) (h : ∀ p H2, H p = none → Same H H2 → H2 p = some (.lst xs) → Q (.ref p) H2) : rLst K [.ref a] H Q := ⟨a, xs, rfl, .inr hs, new_same h⟩
theorem tp_new {a : Addr} {xs : List V} (hs : SqL K H a xs) (h : ∀ p H2, H p = none → Same H H2 → H2 p = some (.tup xs) → Q (.ref p) H2) : W6.rTup K [.ref a] H Q := W6.b_tup hs h
theorem tp_same {a : Addr} {xs : List V} (hs : SqT K H a xs) (h : Q (.ref a) H) : W6.rTup K [.ref a] H Q := ⟨a, xs, rfl, .inr ⟨hs, h⟩⟩
end
/-! ### draws -/
/-- each draw lies below its size -/
inductive Dr : List Int → List Int → Prop
  | nil : Dr [] []
  | cons {d s : Int} {ds ss : List Int} : 0 ≤ d → d < s → Dr ds ss → Dr (d :: ds) (s :: ss)
theorem Dr.len : ∀ {ds ss : List Int}, Dr ds ss → ds.length = ss.length
  | _, _, .nil => rfl
  | _, _, .cons _ _ h => by rw [List.length_cons, List.length_cons, h.len]
theorem Dr.snoc : ∀ {ds ss : List Int} {d s : Int}, Dr ds ss → 0 ≤ d → d < s → Dr (ds ++ [d]) (ss ++ [s])
  | _, _, _, _, .nil, h1, h2 => .cons h1 h2 .nil
  | _, _, _, _, .cons a b h, h1, h2 => .cons a b (h.snoc h1 h2)
theorem Dr.at : ∀ {ds ss : List Int} {i : Nat} {s : Int}, Dr ds ss → ss[i]? = some s → ∃ d, ds[i]? = some d ∧ 0 ≤ d ∧ d < s
  | _, _, 0, _, .cons a b _, e => by cases e; exact ⟨_, rfl, a, b⟩
  | _, _, i + 1, _, .cons _ _ h, e => h.at (i := i) e
theorem Dr.get {ds ss : List Int} {i : Nat} {d : Int} (h : Dr ds ss) (e : ds[i]? = some d) : ∃ s, ss[i]? = some s ∧ 0 ≤ d ∧ d < s := by
  have hl := h.len
  have hi := (List.getElem?_eq_some_iff.mp e).1
  obtain ⟨d', e', h1, h2⟩ := h.at (i := i) (List.getElem?_eq_getElem (by omega))
  rw [e] at e'
  cases e'
  exact ⟨_, List.getElem?_eq_getElem (by omega), h1, h2⟩
theorem Dr.inv {ds ss : List Int} {s : Int} (h : Dr ds (s :: ss)) : ∃ d r, ds = d :: r ∧ 0 ≤ d ∧ d < s ∧ Dr r ss := by
  cases h with
  | cons h1 h2 h3 => exact ⟨_, _, rfl, h1, h2, h3⟩
theorem Dr.nil_inv {ds : List Int} (h : Dr ds []) : ds = [] := by
  cases h
  rfl
/-- sizes that may be drawn below -/
def SzOk (ss : List Int) : Prop := ss.length ≤ 1000 ∧ ∀ s ∈ ss, 0 < s ∧ s ≤ 10 ^ 80
theorem szOk_of {ss : List Int} (h : (decide (ss.length ≤ 1000) && ss.all fun s => decide (0 < s) && decide (s ≤ 10 ^ 80)) = true) : SzOk ss := by
  simp only [Bool.and_eq_true, decide_eq_true_eq, List.all_eq_true] at h
  exact h
def PR : List Int := [2147483647, 998244353, 1000000007, 1000000009, 4294967291, 1073741789, 536870909, 2305843009213693951]
theorem pr_at {j : Nat} (h : j < 8) : ∃ p, PR[j]? = some p ∧ 0 < p ∧ p < 2 ^ 62 := by
  have : ∀ j, j < 8 → 0 < PR.getD j 0 ∧ PR.getD j 0 < 2 ^ 62 := by decide +kernel
  exact ⟨PR.getD j 0, by rw [List.getD_eq_getElem?_getD, List.getElem?_eq_getElem (by exact h)]; rfl, this j h⟩
theorem ix_pr {K : PySem.W.Frag} {H : Hp} {Q : VK} {a : Addr} {i : Int} (e : H a = some (.lst (PR.map V.int))) (h0 : 0 ≤ i) (h8 : i < 8) (h : ∀ p : Int, 0 < p → p < 2 ^ 62 → Q (.int p) H) : rIx K (.ref a) (.int i) H Q := by
  obtain ⟨p, g, p1, p2⟩ := pr_at (j := i.toNat) (by omega)
  exact o_ixL (lst_of e) (atI_of (j := i.toNat) (by omega) (v := .int p) (by rw [List.getElem?_map, g]; rfl)) (h p p1 p2)
/-- an int out of a list of ints -/
theorem ix_int {K : PySem.W.Frag} {H : Hp} {Q : VK} {a : Addr} {xs : List Int} {i : Int} (hs : SqL K H a (xs.map V.int)) (h0 : 0 ≤ i) (h1 : i < xs.length) (h : ∀ x : Int, xs[i.toNat]? = some x → Q (.int x) H) : rIx K (.ref a) (.int i) H Q := by
  have e := List.getElem?_eq_getElem (l := xs) (i := i.toNat) (by omega)
  exact o_ixL hs (atI_of (j := i.toNat) (by omega) (v := .int xs[i.toNat]) (by rw [List.getElem?_map, e]; rfl)) (h _ e)
def spCellN (K : PySem.W.Frag) : Sp := fun vs H Q _ => ∃ (a : Addr) (ns : List Int) (k : Int), vs = [.ref a, .int k] ∧ SqL K H a (ns.map V.int) ∧ ∀ r : Int, Q (.int r) H
def spDraws (K : PySem.W.Frag) : Sp := fun vs H Q _ => ∃ (a b : Addr) (ns ss : List Int) (k : Int), vs = [.ref a, .int k, .ref b] ∧ SqL K H a (ns.map V.int) ∧ SqL K H b (ss.map V.int) ∧ SzOk ss ∧
  ∀ p H' ds, Same H H' → H p = none → H' p = some (.lst ((ds : List Int).map V.int)) → Dr ds ss → Q (.ref p) H'
/-! ### lists and tuples alike -/
def iSeq (K : PySem.W.Frag) (te : TE) : TI := fun σ H R => iList K te σ H R ∨ iTup K te σ H R
theorem pi_seq {X : Cx} {tg e : Expr} {te : TE} (h : PE X e te) : PI X tg e (iSeq X.K te) := ⟨fun pins s σ H R I q => q.elim (fun q => (pi_list h).run pins s σ H R I q) (fun q => (pi_tup h).run pins s σ H R I q)⟩
theorem w_sl {K : PySem.W.Frag} {te : TE} {σ : L2.St} {H : Hp} {R : It → Hp → Prop} (h : te σ H fun x H1 => KL K x H1 R) : iSeq K te σ H R := .inl h
theorem w_st {K : PySem.W.Frag} {te : TE} {σ : L2.St} {H : Hp} {R : It → Hp → Prop} (h : te σ H fun x H1 => KT K x H1 R) : iSeq K te σ H R := .inr h
def Sq (K : PySem.W.Frag) (H : Hp) (a : Addr) (xs : List V) : Prop := SqL K H a xs ∨ SqT K H a xs
theorem Sq.same {K : PySem.W.Frag} {H H' : Hp} {a : Addr} {xs : List V} (h : Sq K H a xs) (s : Same H H') : Sq K H' a xs := h.imp (fun h => s.seq h) fun h => seqT s h
/-- an iterator over such -/
def SqIt (K : PySem.W.Frag) (a : Addr) (xs : List V) (J : It) (H : Hp) : Prop := (J = Itl K a ∧ SqL K H a xs) ∨ (J = Itt K a ∧ SqT K H a xs)
theorem SqIt.same {K : PySem.W.Frag} {H H' : Hp} {a : Addr} {xs : List V} {J : It} (h : SqIt K a xs J H) (s : Same H H') : SqIt K a xs J H' := h.imp (fun h => ⟨h.1, s.seq h.2⟩) fun h => ⟨h.1, seqT s h.2⟩
section
variable {K : PySem.W.Frag} {σ : L2.St} {H : Hp} {Q : VK} {D : Ends} {t : TS} {te : TE} {tt : TT} {g : TG} {a : Addr} {xs : List V} {vs : List Nat} {i : Nat} {J : It}
/-- for x in v, v a slot -/
theorem w_sq {R : It → Hp → Prop} (hs : Sq K H a xs) (e : σ[i]? = some (some (.ref a))) (h : ∀ J, SqIt K a xs J H → R J H) : iSeq K (tVar i) σ H R := by
  rcases hs with hs | hs
  · exact .inl (w_l (e_var e (k_l hs (h _ (.inl ⟨rfl, hs⟩)))))
  · exact .inr (w_t (e_var e (k_t hs (h _ (.inr ⟨rfl, hs⟩)))))
theorem f_sq {H0 : Hp} (hJ : SqIt K a xs J H0) (Pv : Nat → L2.St → Hp → Prop) (h0 : Pv 0 σ H) (hl : ∀ i σ H, Pv i σ H → Same H0 H)
    (hs : ∀ i x σ H, xs[i]? = some x → Pv i σ H → g x σ H fun σ2 H2 => t ⟨Pv (i + 1), D.rt, D.nx, Pv (i + 1)⟩ σ2 H2) (hd : ∀ σ H, Pv xs.length σ H → D.nx σ H) : LoopF J g t D σ H := by
  rcases hJ with ⟨rfl, hJ⟩ | ⟨rfl, hJ⟩
  · exact f_list Pv h0 (fun i σ H _ p => (hl i σ H p).seq hJ) hs hd
  · exact f_tup Pv h0 (fun i σ H _ p => seqT (hl i σ H p) hJ) hs hd
/-- a list comprehension: what is taken so far -/
theorem c_acc (hJ : SqIt K a xs J H) (R : Nat → List V → Hp → Prop) (mono : ∀ i acc H H', TK H H' → R i acc H → R i acc H') (small : ∀ i acc H, i ≤ xs.length → R i acc H → acc.length < sizeLine) (r0 : R 0 [] H)
    (step : ∀ i x H1 acc (N : VK) (M : Hp → Prop), xs[i]? = some x → Same H H1 → R i acc H1 → (∀ y H3, Same H1 H3 → R (i + 1) (acc ++ [y]) H3 → N y H3) → (∀ H3, Same H1 H3 → R (i + 1) acc H3 → M H3) →
      g x (wipe σ vs) H1 fun σ2 H2 => wipe σ2 vs = wipe σ vs ∧ tt σ2 H2 fun b H3 => if b = true then te σ2 H3 N else M H3)
    (post : ∀ D H2 ys, H D = none → Same H H2 → H2 D = some (.lst ys) → R xs.length ys H2 → Q (.ref D) H2) : LoopC J g tt te vs σ H Q := by
  have key : ∀ (D : Addr) (i : Nat) (x : V) (H1 : Hp), xs[i]? = some x → H D = none → (Same H H1 ∧ ∃ acc, H1 D = some (.lst acc) ∧ R i acc H1) → g x (wipe σ vs) H1 fun σ2 H2 => wipe σ2 vs = wipe σ vs ∧ tt σ2 H2 fun b H3 =>
      if b = true then te σ2 H3 fun y H4 => COut D y H4 (fun H5 => Same H H5 ∧ ∃ acc, H5 D = some (.lst acc) ∧ R (i + 1) acc H5) else (fun H5 => Same H H5 ∧ ∃ acc, H5 D = some (.lst acc) ∧ R (i + 1) acc H5) H3 := by
    intro D i x H1 hx nD ⟨s1, acc, e1, r1⟩
    have hi := (List.getElem?_eq_some_iff.mp hx).1
    refine step i x H1 acc _ _ hx s1 r1 (fun y H3 s3 r3 => ?_) (fun H3 s3 r3 => ⟨s1.trans s3, acc, s3 _ _ e1, r3⟩)
    refine c_out (s3 _ _ e1) (small i acc H1 (by omega) r1) fun H4 c4 e4 => ⟨c4.same (s1.trans s3) nD, _, e4, mono _ _ _ _ (c4.tk (s3 _ _ e1)) r3⟩
  have p0 : ∀ (D : Addr) (H1 : Hp), H D = none → Same H H1 → H1 D = some (.lst []) → (Same H H1 ∧ ∃ acc, H1 D = some (.lst acc) ∧ R 0 acc H1) := fun D H1 nD s1 e1 => ⟨s1, [], e1, mono _ _ _ _ s1.tk r0⟩
  have pe : ∀ (D : Addr) (H1 : Hp), H D = none → (Same H H1 ∧ ∃ acc, H1 D = some (.lst acc) ∧ R xs.length acc H1) → Q (.ref D) H1 := fun D H1 nD ⟨s1, acc, e1, r1⟩ => post D H1 acc nD s1 e1 r1
  rcases hJ with ⟨rfl, hJ⟩ | ⟨rfl, hJ⟩
  · exact c_list (fun D i H1 => Same H H1 ∧ ∃ acc, H1 D = some (.lst acc) ∧ R i acc H1) p0 (fun D i H1 _ _ p => p.1.seq hJ) (fun D i x H1 hx nD p => key D i x H1 hx nD p) pe
  · exact fun D nD => lc_tup (fun i H1 => Same H H1 ∧ ∃ acc, H1 D = some (.lst acc) ∧ R i acc H1) (p0 D _ nD (same_new nD) upd_same) (fun i H1 _ p => seqT p.1 hJ) (fun i x H1 hx p => key D i x H1 hx nD p) fun H1 p => pe D H1 nD p
theorem c_accR {lo : Int} {n : Nat} (R : Nat → List V → Hp → Prop) (mono : ∀ i acc H H', TK H H' → R i acc H → R i acc H') (small : ∀ i acc H, i ≤ n → R i acc H → acc.length < sizeLine) (r0 : R 0 [] H)
    (step : ∀ i H1 acc (N : VK) (M : Hp → Prop), i < n → Same H H1 → R i acc H1 → (∀ y H3, Same H1 H3 → R (i + 1) (acc ++ [y]) H3 → N y H3) → (∀ H3, Same H1 H3 → R (i + 1) acc H3 → M H3) →
      g (.int (lo + i)) (wipe σ vs) H1 fun σ2 H2 => wipe σ2 vs = wipe σ vs ∧ tt σ2 H2 fun b H3 => if b = true then te σ2 H3 N else M H3)
    (post : ∀ D H2 ys, H D = none → Same H H2 → H2 D = some (.lst ys) → R n ys H2 → Q (.ref D) H2) : LoopC (Itr lo n) g tt te vs σ H Q := by
  refine c_range (fun D i H1 => Same H H1 ∧ ∃ acc, H1 D = some (.lst acc) ∧ R i acc H1) (fun D H1 nD s1 e1 => ⟨s1, [], e1, mono _ _ _ _ s1.tk r0⟩) (fun D i H1 hi nD p => ?_) (fun D H1 nD ⟨s1, acc, e1, r1⟩ => post D H1 acc nD s1 e1 r1)
  obtain ⟨s1, acc, e1, r1⟩ := p
  refine step i H1 acc _ _ hi s1 r1 (fun y H3 s3 r3 => ?_) (fun H3 s3 r3 => ⟨s1.trans s3, acc, s3 _ _ e1, r3⟩)
  refine c_out (s3 _ _ e1) (small i acc H1 (by omega) r1) fun H4 c4 e4 => ⟨c4.same (s1.trans s3) nD, _, e4, mono _ _ _ _ (c4.tk (s3 _ _ e1)) r3⟩
end
/-- one value an item -/
def One (P : Nat → V → Hp → Prop) (i : Nat) (acc : List V) (H : Hp) : Prop := acc.length = i ∧ ∀ j y, acc[j]? = some y → P j y H
theorem One.zero {P : Nat → V → Hp → Prop} {H : Hp} : One P 0 [] H := ⟨rfl, fun j y e => by cases e⟩
theorem One.snoc {P : Nat → V → Hp → Prop} {i : Nat} {acc : List V} {H H3 : Hp} {y : V} (mono : ∀ j z, P j z H → P j z H3) (o : One P i acc H) (h : P i y H3) : One P (i + 1) (acc ++ [y]) H3 := by
  refine ⟨by rw [List.length_append, o.1]; rfl, fun j z e => ?_⟩
  by_cases hj : j < acc.length
  · rw [List.getElem?_append_left hj] at e
    exact mono _ _ (o.2 j z e)
  · have hj2 := (List.getElem?_eq_some_iff.mp e).1
    rw [List.length_append, List.length_singleton] at hj2
    have : j = acc.length := by omega
    subst this
    rw [List.getElem?_append_right (Nat.le_refl _), Nat.sub_self] at e
    cases e
    rw [o.1]
    exact h
/-- the list is known from its items -/
theorem One.eq {P : Nat → V → Hp → Prop} {α : Type} {F : α → V} {xs : List α} {acc : List V} {H : Hp} (o : One P xs.length acc H) (h : ∀ j y, j < xs.length → P j y H → xs[j]?.map F = some y) : acc = xs.map F := by
  refine List.ext_getElem? fun j => ?_
  by_cases hj : j < xs.length
  · have hj2 : j < acc.length := by rw [o.1]; exact hj
    rw [List.getElem?_map, h j _ hj (o.2 j acc[j] (List.getElem?_eq_getElem hj2)), List.getElem?_eq_getElem hj2]
  · rw [List.getElem?_eq_none (by rw [o.1]; omega), List.getElem?_eq_none (by rw [List.length_map]; omega)]
theorem One.eqR {P : Nat → V → Hp → Prop} {n : Nat} {F : Nat → V} {acc : List V} {H : Hp} (o : One P n acc H) (h : ∀ j y, j < n → P j y H → y = F j) : acc = (List.range n).map F := by
  refine One.eq (xs := List.range n) (F := F) (by rw [List.length_range]; exact o) fun j y hj p => ?_
  rw [List.length_range] at hj
  rw [List.getElem?_range hj, h j y hj p]
  rfl
theorem One.ints {P : Nat → V → Hp → Prop} {n : Nat} {acc : List V} {H : Hp} (o : One P n acc H) (h : ∀ j y, j < n → P j y H → ∃ i : Int, y = .int i) : ∃ xs : List Int, acc = xs.map V.int ∧ xs.length = n := by
  have key : ∀ acc : List V, (∀ y ∈ acc, ∃ i : Int, y = .int i) → ∃ xs : List Int, acc = xs.map V.int := by
    intro acc
    induction acc with
    | nil => exact fun _ => ⟨[], rfl⟩
    | cons y r ih =>
      intro h
      obtain ⟨i, rfl⟩ := h y List.mem_cons_self
      obtain ⟨xs, rfl⟩ := ih fun z hz => h z (List.mem_cons_of_mem _ hz)
      exact ⟨i :: xs, rfl⟩
  obtain ⟨xs, e⟩ := key acc fun y hy => by
    obtain ⟨j, hj, e⟩ := List.getElem_of_mem hy
    exact h j y (by rw [← o.1]; exact hj) (o.2 j y (by rw [List.getElem?_eq_getElem hj, e]))
  exact ⟨xs, e, by rw [← o.1, e, List.length_map]⟩
/-- `xs` with the pattern n times -/
theorem One.const {n : Nat} {acc : List V} {H : Hp} {v : V} (o : One (fun _ y _ => y = v) n acc H) : acc = List.replicate n v := by
  refine List.ext_getElem? fun j => ?_
  rw [List.getElem?_replicate]
  by_cases hj : j < n
  · rw [if_pos hj, List.getElem?_eq_getElem (by rw [o.1]; exact hj), o.2 j _ (List.getElem?_eq_getElem (by rw [o.1]; exact hj))]
  · rw [if_neg hj, List.getElem?_eq_none (by rw [o.1]; omega)]
end WN
/-! WQ: data that is equal. -/
namespace WQ
open PySem PySem.Spec PyProof.Rows L2 Wy WN
mutual
/-- no truth value in it -/
def nb : PyData → Bool
  | .none => true
  | .bool _ => false
  | .int _ => true
  | .str _ => true
  | .list xs => nbAll xs
  | .tuple xs => nbAll xs
  | .dict _ => false
def nbAll : List PyData → Bool
  | [] => true
  | x :: xs => nb x && nbAll xs
end
mutual
theorem eqv_iff : ∀ (d e : PyData), nb d = true → nb e = true → (PyData.eqv d e = true ↔ d = e)
  | .none, e, _, h => by cases e <;> simp [PyData.eqv, nb] at h ⊢
  | .bool _, _, h, _ => by simp [nb] at h
  | .int i, e, _, h => by cases e <;> simp [PyData.eqv, nb] at h ⊢
  | .str x, e, _, h => by cases e <;> simp [PyData.eqv, nb] at h ⊢
  | .list xs, e, h, h' => by
    cases e with
    | list ys =>
      have ih := eqvAll_iff xs ys (by simpa [nb] using h) (by simpa [nb] using h')
      simp [PyData.eqv, ih]
    | _ => simp [PyData.eqv, nb] at h' ⊢
  | .tuple xs, e, h, h' => by
    cases e with
    | tuple ys =>
      have ih := eqvAll_iff xs ys (by simpa [nb] using h) (by simpa [nb] using h')
      simp [PyData.eqv, ih]
    | _ => simp [PyData.eqv, nb] at h' ⊢
  | .dict _, _, h, _ => by simp [nb] at h
theorem eqvAll_iff : ∀ (xs ys : List PyData), nbAll xs = true → nbAll ys = true → (PyData.eqvAll xs ys = true ↔ xs = ys)
  | [], [], _, _ => by simp [PyData.eqvAll]
  | [], _ :: _, _, _ => by simp [PyData.eqvAll]
  | _ :: _, [], _, _ => by simp [PyData.eqvAll]
  | x :: xs, y :: ys, h, h' => by
    simp only [nbAll, Bool.and_eq_true] at h h'
    have i1 := eqv_iff x y h.1 h'.1
    have i2 := eqvAll_iff xs ys h.2 h'.2
    simp [PyData.eqvAll, i1, i2]
end
theorem shaped_of {d : PyData} (h : d.canLay0 = true) (h2 : d.depth ≤ 64) : SeqAt.shaped d = true := by
  unfold SeqAt.shaped
  rw [h, decide_eq_true h2]
  rfl
section
variable {K : PySem.W.Frag} {H : Hp} {Q : VK} {x y : V} {d e : PyData}
theorem eq_same (h1 : Dp K H x d) (h2 : Dp K H y d) (hs : SeqAt.shaped d = true) (h : Q (.bl true) H) : rEq2 K x y H Q := by
  refine o_eqD h1 h2 hs hs ?_
  rw [SeqAt.eqv_refl _ (SeqAt.canLay_of_shaped hs)]
  exact h
theorem ne_same (h1 : Dp K H x d) (h2 : Dp K H y d) (hs : SeqAt.shaped d = true) (h : Q (.bl false) H) : rNe2 K x y H Q := by
  refine o_neD h1 h2 hs hs ?_
  rw [SeqAt.eqv_refl _ (SeqAt.canLay_of_shaped hs)]
  exact h
theorem eq_nb (h1 : Dp K H x d) (h2 : Dp K H y e) (hs : SeqAt.shaped d = true) (hs2 : SeqAt.shaped e = true) (n1 : nb d = true) (n2 : nb e = true) (hy : d = e → Q (.bl true) H) (hn : d ≠ e → Q (.bl false) H) : rEq2 K x y H Q := by
  refine o_eqD h1 h2 hs hs2 ?_
  have i := eqv_iff d e n1 n2
  cases q : PyData.eqv d e with
  | true => exact hy (i.mp q)
  | false => exact hn fun z => by rw [i.mpr z] at q; cases q
theorem ne_nb (h1 : Dp K H x d) (h2 : Dp K H y e) (hs : SeqAt.shaped d = true) (hs2 : SeqAt.shaped e = true) (n1 : nb d = true) (n2 : nb e = true) (hy : d = e → Q (.bl false) H) (hn : d ≠ e → Q (.bl true) H) : rNe2 K x y H Q := by
  refine o_neD h1 h2 hs hs2 ?_
  have i := eqv_iff d e n1 n2
  cases q : PyData.eqv d e with
  | true => exact hy (i.mp q)
  | false => exact hn fun z => by rw [i.mpr z] at q; cases q
end
theorem lay_all {α : Type} (F : α → PyData) : ∀ xs : List α, (∀ x ∈ xs, (F x).canLay0 = true) → PyData.canLayAll0 (xs.map F) = true
  | [], _ => by simp [PyData.canLayAll0]
  | x :: xs, h => by simp [PyData.canLayAll0, h x List.mem_cons_self, lay_all F xs fun y hy => h y (List.mem_cons_of_mem _ hy)]
theorem dep_all {α : Type} (F : α → PyData) (n : Nat) : ∀ xs : List α, (∀ x ∈ xs, (F x).depth ≤ n) → PyData.depthAll (xs.map F) ≤ n
  | [], _ => by simp [PyData.depthAll]
  | x :: xs, h => by
    have h1 := h x List.mem_cons_self
    have h2 := dep_all F n xs fun y hy => h y (List.mem_cons_of_mem _ hy)
    simp only [List.map_cons, PyData.depthAll]
    omega
theorem nb_all {α : Type} (F : α → PyData) : ∀ xs : List α, (∀ x ∈ xs, nb (F x) = true) → nbAll (xs.map F) = true
  | [], _ => by simp [nbAll]
  | x :: xs, h => by simp [nbAll, h x List.mem_cons_self, nb_all F xs fun y hy => h y (List.mem_cons_of_mem _ hy)]
theorem shL {α : Type} (F : α → PyData) (xs : List α) (n : Nat) (hn : n < 64) (h : ∀ x ∈ xs, (F x).canLay0 = true ∧ (F x).depth ≤ n) : SeqAt.shaped (.list (xs.map F)) = true :=
  shaped_of (by simp [PyData.canLay0, lay_all F xs fun x hx => (h x hx).1]) (by have := dep_all F n xs fun x hx => (h x hx).2; simp only [PyData.depth]; omega)
theorem shT {α : Type} (F : α → PyData) (xs : List α) (n : Nat) (hn : n < 64) (h : ∀ x ∈ xs, (F x).canLay0 = true ∧ (F x).depth ≤ n) : SeqAt.shaped (.tuple (xs.map F)) = true :=
  shaped_of (by simp [PyData.canLay0, lay_all F xs fun x hx => (h x hx).1]) (by have := dep_all F n xs fun x hx => (h x hx).2; simp only [PyData.depth]; omega)
theorem lay_int (i : Int) : (PyData.int i).canLay0 = true ∧ (PyData.int i).depth ≤ 0 := ⟨by simp [PyData.canLay0], by simp [PyData.depth]⟩
theorem lay_bool (b : Bool) : (PyData.bool b).canLay0 = true ∧ (PyData.bool b).depth ≤ 0 := ⟨by simp [PyData.canLay0], by simp [PyData.depth]⟩
theorem lay_tup {ds : List PyData} {n : Nat} (h : ∀ x ∈ ds, x.canLay0 = true ∧ x.depth ≤ n) : (PyData.tuple ds).canLay0 = true ∧ (PyData.tuple ds).depth ≤ n + 1 := by
  have h1 := lay_all id ds fun x hx => (h x hx).1
  have h2 := dep_all id n ds fun x hx => (h x hx).2
  rw [List.map_id] at h1 h2
  exact ⟨by simp [PyData.canLay0, h1], by simp only [PyData.depth]; omega⟩
/-! values to data -/
theorem dp_ints {K : PySem.W.Frag} {H : Hp} : ∀ xs : List Int, DpAll K H (xs.map V.int) (xs.map PyData.int)
  | [] => .nil
  | x :: xs => .cons (.int x) (dp_ints xs)
theorem dp_bls {K : PySem.W.Frag} {H : Hp} : ∀ xs : List Bool, DpAll K H (xs.map V.bl) (xs.map PyData.bool)
  | [] => .nil
  | x :: xs => .cons (.bl x) (dp_bls xs)
theorem tp_ints {H : Hp} : ∀ xs : List Int, TpAll H (xs.map V.int) (xs.map PyData.int)
  | [] => .nil
  | x :: xs => .cons (.int x) (tp_ints xs)
theorem ints_tp {H : Hp} : ∀ {xs : List Int} {vs : List V}, TpAll H vs (xs.map PyData.int) → vs = xs.map V.int
  | [], _, h => by cases h; rfl
  | x :: xs, _, h => by
    cases h with
    | cons h1 h2 =>
      cases h1
      rw [ints_tp h2]
      rfl
theorem tpGet {α : Type} {F : α → PyData} {H : Hp} {us : List V} {xs : List α} {i : Nat} {u : V} (t : TpAll H us (xs.map F)) (e : us[i]? = some u) : ∃ x, xs[i]? = some x ∧ Tp H u (F x) := by
  have hl := t.length
  rw [List.length_map] at hl
  have hi := (List.getElem?_eq_some_iff.mp e).1
  have hx : xs[i]? = some xs[i] := List.getElem?_eq_getElem (by omega)
  obtain ⟨v, e2, tv⟩ := t.get (i := i) (d := F xs[i]) (by rw [List.getElem?_map, hx]; rfl)
  rw [e] at e2
  cases e2
  exact ⟨_, hx, tv⟩
theorem tpAt {α : Type} {F : α → PyData} {H : Hp} {us : List V} {xs : List α} {i : Nat} {x : α} (t : TpAll H us (xs.map F)) (e : xs[i]? = some x) : ∃ u, us[i]? = some u ∧ Tp H u (F x) :=
  t.get (by rw [List.getElem?_map, e]; rfl)
theorem tp3 {H : Hp} {v : V} {d1 d2 d3 : PyData} (h : Tp H v (.tuple [d1, d2, d3])) : ∃ a v1 v2 v3, v = .ref a ∧ H a = some (.tup [v1, v2, v3]) ∧ Tp H v1 d1 ∧ Tp H v2 d2 ∧ Tp H v3 d3 := by
  cases h with
  | tup e r =>
    cases r with | cons h1 r => cases r with | cons h2 r => cases r with | cons h3 r =>
      cases r
      exact ⟨_, _, _, _, rfl, e, h1, h2, h3⟩
theorem tp2 {H : Hp} {v : V} {d1 d2 : PyData} (h : Tp H v (.tuple [d1, d2])) : ∃ a v1 v2, v = .ref a ∧ H a = some (.tup [v1, v2]) ∧ Tp H v1 d1 ∧ Tp H v2 d2 := by
  cases h with
  | tup e r =>
    cases r with | cons h1 r => cases r with | cons h2 r =>
      cases r
      exact ⟨_, _, _, rfl, e, h1, h2⟩
theorem tpL {H : Hp} {v : V} {ds : List PyData} (h : Tp H v (.tuple ds)) : ∃ a vs, v = .ref a ∧ H a = some (.tup vs) ∧ TpAll H vs ds := by
  cases h with
  | tup e r => exact ⟨_, _, rfl, e, r⟩
theorem tpSnoc {H : Hp} {us : List V} {ds : List PyData} {v : V} {d : PyData} (t : TpAll H us ds) (h : Tp H v d) : TpAll H (us ++ [v]) (ds ++ [d]) := by
  induction us generalizing ds with
  | nil => cases t; exact .cons h .nil
  | cons u r ih => cases t with | cons a b => exact .cons a (ih b)
theorem tpApp {H : Hp} {us vs : List V} {ds es : List PyData} (t : TpAll H us ds) (h : TpAll H vs es) : TpAll H (us ++ vs) (ds ++ es) := by
  induction us generalizing ds with
  | nil => cases t; exact h
  | cons u r ih => cases t with | cons a b => exact .cons a (ih b)
theorem tpOf {H : Hp} : ∀ {us : List V} {ds : List PyData}, us.length = ds.length → (∀ (j : Nat) (y : V) (d : PyData), us[j]? = some y → ds[j]? = some d → Tp H y d) → TpAll H us ds
  | [], [], _, _ => .nil
  | [], _ :: _, h, _ => by simp at h
  | _ :: _, [], h, _ => by simp at h
  | u :: us, d :: ds, h, g => .cons (g 0 u d rfl rfl) (tpOf (by simpa using h) fun j y d a b => g (j + 1) y d (by simpa using a) (by simpa using b))
/-- one by one over a range -/
theorem tpOne {P : Nat → V → Hp → Prop} {F : Nat → PyData} {n : Nat} {us : List V} {H : Hp} (o : One P n us H) (h : ∀ j y, j < n → P j y H → Tp H y (F j)) : TpAll H us ((List.range n).map F) :=
  tpOf (by rw [o.1, List.length_map, List.length_range]) fun j y d a b => by
    have hj : j < n := by have := (List.getElem?_eq_some_iff.mp a).1; rw [o.1] at this; exact this
    rw [List.getElem?_map, List.getElem?_range hj] at b
    cases b
    exact h j y hj (o.2 j y a)
/-- tuples of ints -/
def iT (xs : List Int) : PyData := .tuple (xs.map .int)
theorem tpI {H : Hp} {v : V} {xs : List Int} (h : Tp H v (iT xs)) : ∃ a, v = .ref a ∧ H a = some (.tup (xs.map V.int)) := by
  obtain ⟨a, vs, rfl, e, t⟩ := tpL h
  rw [ints_tp t] at e
  exact ⟨a, rfl, e⟩
theorem iT_tp {H : Hp} {a : Addr} {xs : List Int} (e : H a = some (.tup (xs.map V.int))) : Tp H (.ref a) (iT xs) := .tup e (tp_ints xs)
theorem iT_lay (xs : List Int) : (iT xs).canLay0 = true ∧ (iT xs).depth ≤ 1 := lay_tup fun x hx => by
  obtain ⟨i, _, rfl⟩ := List.mem_map.mp hx
  exact lay_int i
theorem nb_int : ∀ xs : List Int, nbAll (xs.map PyData.int) = true
  | [] => rfl
  | x :: xs => by simp [nbAll, nb, nb_int xs]
theorem iT_nb (xs : List Int) : nb (iT xs) = true := by
  show nbAll _ = true
  exact nb_int xs
end WQ
/-! WS: differences and values. -/
namespace WS
open PySem PySem.Spec PyProof.Rows L2 Wy WN WQ
abbrev Df := Int × Int × Int
def dfD (d : Df) : PyData := .tuple [.int d.1, .int d.2.1, .int d.2.2]
theorem dfD_lay (d : Df) : (dfD d).canLay0 = true ∧ (dfD d).depth ≤ 1 := lay_tup (n := 0) fun x hx => by
  simp only [List.mem_cons, List.not_mem_nil, or_false] at hx
  rcases hx with rfl | rfl | rfl <;> exact lay_int _
theorem dfD_nb (d : Df) : nb (dfD d) = true := rfl
/-- the value of a node -/
def lv (vs : List Int) (n : Int) : Int := (0 :: vs).getD n.toNat 0
def kept (vs : List Int) (d : Df) : Bool := decide (lv vs d.1 - lv vs d.2.1 ≤ d.2.2)
def InR (n : Nat) (d : Df) : Prop := 0 ≤ d.1 ∧ d.1 ≤ n ∧ 0 ≤ d.2.1 ∧ d.2.1 ≤ n
theorem lv_at {vs : List Int} {n : Int} (h0 : 0 ≤ n) (h1 : n ≤ vs.length) : ((0 :: vs).map V.int)[n.toNat]? = some (.int (lv vs n)) := by
  have : n.toNat < (0 :: vs).length := by rw [List.length_cons]; omega
  rw [List.getElem?_map, List.getElem?_eq_getElem this]
  unfold lv
  rw [List.getD_eq_getElem?_getD, List.getElem?_eq_getElem this]
  rfl
section
variable {K : PySem.W.Frag} {H : Hp} {Q : VK} {a : Addr} {xs : List V} {x y z : V}
theorem ix_lv {vs : List Int} {n : Int} (hs : SqL K H a ((0 :: vs).map V.int)) (h0 : 0 ≤ n) (h1 : n ≤ vs.length) (h : Q (.int (lv vs n)) H) : rIx K (.ref a) (.int n) H Q := o_ixL hs (atI_of (j := n.toNat) (by omega) (lv_at h0 h1)) h
theorem b_allT (hs : SqL K H a xs) (hx : ∀ (j : Nat) (y : V), xs[j]? = some y → y = .bl true) (h : Q (.bl true) H) : rAll2 K [.ref a] H Q := by
  have e : xs = (List.replicate xs.length true).map V.bl := by
    refine List.ext_getElem? fun j => ?_
    rw [List.getElem?_map, List.getElem?_replicate]
    by_cases hj : j < xs.length
    · rw [if_pos hj, List.getElem?_eq_getElem hj, hx j _ (List.getElem?_eq_getElem hj)]
      rfl
    · rw [if_neg hj, List.getElem?_eq_none (by omega)]
      rfl
  rw [e] at hs
  refine b_all hs ?_
  have : (List.replicate xs.length true).all id = true := by simp
  rw [this]
  exact h
/-- all of truths that are known one by one -/
theorem b_allM {α : Type} {ds : List α} {f : α → Bool} (hs : SqL K H a (ds.map fun d => V.bl (f d))) (h : Q (.bl (ds.all f)) H) : rAll2 K [.ref a] H Q := by
  have e : ds.map (fun d => V.bl (f d)) = (ds.map f).map V.bl := by rw [List.map_map]; rfl
  rw [e] at hs
  refine b_all hs ?_
  have : (ds.map f).all id = ds.all f := by rw [List.all_map]; rfl
  rw [this]
  exact h
theorem b_len0 (hs : SqL K H a []) (h : Q (.int 0) H) : rLn K [.ref a] H Q := b_lenL hs h
theorem b_lenT0 (hs : SqT K H a []) (h : Q (.int 0) H) : rLn K [.ref a] H Q := b_lenT hs h
theorem b_lenT1 (hs : SqT K H a [x]) (h : Q (.int 1) H) : rLn K [.ref a] H Q := b_lenT hs h
theorem b_lenT2 (hs : SqT K H a [x, y]) (h : Q (.int 2) H) : rLn K [.ref a] H Q := b_lenT hs h
theorem b_lenT3 (hs : SqT K H a [x, y, z]) (h : Q (.int 3) H) : rLn K [.ref a] H Q := b_lenT hs h
end
def spIsInt : Sp := fun vs H Q _ => ∃ i : Int, vs = [.int i] ∧ Q (.bl true) H
/-- all differences kept by values -/
def spKept (K : PySem.W.Frag) : Sp := fun vs H Q _ => ∃ (a b : Addr) (us : List V) (ds : List Df) (vals : List Int), vs = [.ref a, .ref b] ∧ Sq K H a us ∧ TpAll H us (ds.map dfD) ∧ H b = some (.lst (vals.map V.int)) ∧ (∀ d ∈ ds, InR vals.length d) ∧
  ds.length ≤ 1000 ∧ vals.length ≤ 900 ∧ ∀ H', Same H H' → Q (.bl (ds.all (kept vals))) H'
end WS
local macro_rules | `(tactic| walk_at "tr") => `(tactic| first | assumption | exact lst_of (by assumption) | exact tup_of (by assumption) | (refine L2.Same.seq (by assumption) ?_; walk_at "tr") | (refine seqT (by assumption) ?_; walk_at "tr"))
local macro_rules | `(tactic| walk_at "s") => `(tactic| with_reducible first
  | refine s_seq ?_ | refine s_asg ?_ | refine g_name ?_ | refine s_ret ?_ | refine s_retN ?_ | refine s_drop ?_ | refine s_if ?_ | refine s_next ?_ | refine s_brk ?_ | refine s_ct ?_ | refine s_for ?_
  | (apply e_var; with_unfolding_all rfl) | refine e_c ?_ | refine e_op ?_ | refine e_un ?_ | refine a_cons ?_ | refine a_nil ?_ | refine c_b ?_ | refine c_call ?_ | refine t_test ?_ | refine k_bl ?_ | refine t_b ?_ | refine t_tr ?_ | refine k_trB ?_ | refine k_trN ?_ | refine k_trI ?_
  | refine t_and ?_ | refine t_or ?_ | refine t_not ?_ | refine e_andV ?_ | refine e_orV ?_ | refine e_notV ?_ | refine e_if ?_ | refine e_chain ?_ | refine e_tup ?_ | refine e_lst ?_ | refine e_sl ?_ | refine p_no ?_ | refine p_so ?_ | refine k_int ?_
  | refine m_bm ?_ | refine g_sub ?_ | refine m_m1 ?_ | refine m_st ?_ | refine e_lc ?_ | refine t_yes ?_ | refine w_r1 ?_ | refine w_r2 ?_ | refine w_l ?_ | refine w_t ?_ | refine w_s ?_ | refine k_s ?_
  | (apply s_aug; with_unfolding_all rfl) | refine i_add ?_ | refine o_addI ?_ | refine o_I0 ?_ | refine b_int ?_ | refine b_intB ?_ | refine b_abs ?_ | refine u_neg ?_ | refine o_isN ?_ | refine o_ntN ?_ | refine o_inS ?_ | refine o_niS ?_
  | refine g_cons ?_ | refine g_nil ?_ | refine e_joined ?_ | refine j_nil ?_ | refine j_cons ?_ | refine e_fmt ?_
  | refine WD.e_dget ?_ | refine WD.s_dput ?_
  | (refine o_mod ?_ ?_; omega) | (refine o_fdiv ?_ ?_ ?_; omega; omega) | (refine o_pow ?_ ?_ ?_ ?_; omega; omega; omega) | (refine o_mulI2 ?_ ?_ ?_; omega; omega) | (refine o_mulI1 ?_ ?_ ?_; omega; omega)
  | (refine WN.o_fdW ?_ ?_ ?_; omega; omega))
local macro_rules | `(tactic| walk_at "ss") => `(tactic| repeat walk_at "s")
local macro_rules | `(tactic| walk_at "ne") => `(tactic| first | assumption | exact Ne.symm (by assumption) | exact WN.ne_new (by assumption) (by walk_at "hp0") | exact Ne.symm (WN.ne_new (by assumption) (by walk_at "hp0")))
local macro_rules | `(tactic| walk_at "hp0") => `(tactic| first | assumption | (refine WN.sm (by assumption) ?_; walk_at "hp0"))
local macro_rules | `(tactic| walk_at "hp") => `(tactic| first | assumption | (refine WN.sm (by assumption) ?_; walk_at "hp") | (refine WN.cm (by assumption) (by walk_at "ne") ?_; walk_at "hp"))
local macro_rules | `(tactic| walk_at "sq") => `(tactic| first | assumption | exact lst_of (by walk_at "hp") | exact tup_of (by walk_at "hp") | (refine L2.Same.seq (by assumption) ?_; walk_at "sq") | (refine seqT (by assumption) ?_; walk_at "sq"))
local macro_rules | `(tactic| walk_at "sa") => `(tactic| first | assumption | exact L2.Same.refl _ | (refine L2.Same.trans ?_ (by assumption); walk_at "sa"))
local macro_rules | `(tactic| walk_at "ty") => `(tactic| first | exact .base (.int _) | exact .base (.bl _) | exact .base .non | exact .base (.str _) | exact .base (.lst (by walk_at "hp")) | exact .base (.tup (by walk_at "hp")))
local macro_rules | `(tactic| walk_at "x") => `(tactic| with_reducible first
  | walk_at "s"
  | (refine n_obj ?_ (fun _ _ _ _ _ => ?_); exact lz (Nat.le_of_ble_eq_true rfl))
  | (apply o_ixT; walk_at "sq"; with_unfolding_all rfl)
  | (apply o_ixL; walk_at "sq"; with_unfolding_all rfl)
  | (apply g_tup; walk_at "sq"; with_unfolding_all rfl)
  | (apply l_L; walk_at "sq"; intro _ _ _ _ _)
  | (refine k_r1 ?_ ?_ ?_; omega; omega)
  | refine WN.b_mx ?_ | refine WN.b_mn ?_
  | (apply k_l; walk_at "sq") | (apply k_t; walk_at "sq")
  | (apply WS.b_lenT2; walk_at "sq") | (apply WS.b_lenT3; walk_at "sq")
  | (apply WN.b_is2 (b := true); walk_at "ty"; exact L2.kit_ty (by decide +kernel)) | (apply WN.b_is2 (b := false); walk_at "ty"; exact L2.kit_ty (by decide +kernel))
  | refine L2.iteT ?_ | refine L2.iteF ?_
  | (refine WN.iteTT ?_ ?_; first | decide +kernel | exact WN.nNRN _ | exact WN.nNIN _ | exact WN.nNSN _ | exact WN.nNBN _)
  | (refine WN.iteFF ?_ ?_; first | decide +kernel | exact WN.nRN _ | exact WN.nIN _ | exact WN.nSN _ | exact WN.nBN _)
  | (refine o_eqS ?_ ?_; with_unfolding_all rfl) | (refine o_neS ?_ ?_; with_unfolding_all rfl))
local macro_rules | `(tactic| walk_at "xx") => `(tactic| repeat walk_at "x")
local macro_rules | `(tactic| walk_at "fr") => `(tactic| first | assumption | exact WN.free_of (by assumption) (by walk_at "sa"))
local macro_rules | `(tactic| walk_at "tp") => `(tactic| first | exact .nil | exact .int _ | exact .bl _ | exact .str _ | exact .non | (refine .cons ?_ ?_ <;> walk_at "tp") | (refine .tup (by walk_at "hp") ?_; walk_at "tp"))
/-! WC: sequences of either kind, and chains. -/
namespace WC
open PySem PySem.Spec PyProof.Rows L2 Wy WN WQ WS
abbrev tStar := StX.tStar
theorem pa_star {X : Cx} {e : Expr} {es : List Expr} {p : Pos} {te : TE} {t : TA} (he : PE X e te) (hr : PA X es t) (hs : starEach (.Starred e p :: es) X.env = (true, eval e X.env) :: starEach es X.env := by rfl) : PA X (.Starred e p :: es) (tStar X.K te t) := StX.pa_star he hr hs
theorem ixN_of {n : Nat} {k : Int} (h0 : 0 ≤ k) (h1 : k < n) : ixN n k = some k.toNat := by
  obtain ⟨j, rfl⟩ : ∃ j : Nat, k = j := ⟨k.toNat, by omega⟩
  rw [ixN_nat (by omega), Int.toNat_natCast]
theorem erase_perm {α : Type} : ∀ {xs : List α} {i : Nat} {x : α}, xs[i]? = some x → (x :: xs.eraseIdx i).Perm xs
  | [], _, _, h => by cases h
  | y :: xs, 0, x, h => by
    cases h
    exact .refl _
  | y :: xs, i + 1, x, h => (List.Perm.swap y x _).trans ((erase_perm (xs := xs) (i := i) h).cons y)
theorem take_sum1 {ws : List Int} {i : Nat} {w : Int} (h : ws[i]? = some w) : (ws.take (i + 1)).sum = (ws.take i).sum + w := by
  rw [List.take_succ, h, List.sum_append]
  simp
theorem nd_inj {α : Type} {xs : List α} {i j : Nat} {x : α} (nd : xs.Nodup) (h1 : xs[i]? = some x) (h2 : xs[j]? = some x) : i = j := by
  have l1 := (List.getElem?_eq_some_iff.mp h1).1
  exact (List.getElem?_inj l1 nd).mp (h1.trans h2.symm)
theorem tpIns {H : Hp} {v : V} {d : PyData} : ∀ {i : Nat} {us : List V} {ds : List PyData}, TpAll H us ds → Tp H v d → TpAll H (us.take i ++ [v] ++ us.drop i) (ds.take i ++ [d] ++ ds.drop i)
  | 0, us, ds, t, h => .cons h t
  | i + 1, _, _, .nil, h => .cons h .nil
  | i + 1, _, _, .cons a b, h => .cons a (tpIns (i := i) b h)
section
variable {X : Cx}
theorem pe_bmK {K : PySem.W.Frag} {o e : Expr} {es : List Expr} {to : TE} {t : TA} {name : Str} {apos cpos : Pos} {T id : String} {r : V → List V → Hp → VK → Prop}
    (pa : PlainAttrs T) (slot : Slot T name id) (hty : typeOf (.builtin id) = pure (.type "method_descriptor")) (hm : MtR X id r) (ho : PE X o to) (ha : PA X (e :: es) t) (hK : X.K = K := by rfl)
    (hbase : attributeBase o name X.env (eval o X.env) = eval o X.env := by rfl)
    (hfew : ((backTo cpos (starEach (e :: es) X.env)).all (fun x => !x.1) && (backToKw cpos (keywordEach [] X.env)).all (fun x => x.1.isSome)
      && decide ((e :: es).length + ([] : List Keyword).length + (if ([] : List Keyword).isEmpty then 0 else 1) < 30)) = true := by rfl)
    (hline : (apos.endLine == cpos.line) = true := by rfl) (hs : starEach (e :: es) X.env = (false, eval e X.env) :: starEach es X.env := by rfl) (hplain : (backTo cpos (starEach es X.env)).any (·.1) = false := by rfl) :
    PE X (.Call (.Attribute o name apos) (e :: es) [] cpos) (tBM K T r to t) := hK ▸ pe_bm pa slot hty hm ho ha hbase hfew hline hs hplain
def rSl3 (K : PySem.W.Frag) : V → Option Int → Option Int → Hp → VK → Prop := fun x lo hi H Q => rSl2 K x lo hi H Q ∨ rSlA K x lo hi H Q
theorem sl_3 : SlR X (rSl3 X.K) := sl_2.or sl_tupA
def rIns : V → List V → Hp → VK → Prop := fun x vs H Q => ∃ (l : Addr) (xs : List V) (i : Int) (y : V), x = .ref l ∧ vs = [.int i, y] ∧ H l = some (.lst xs) ∧ xs.length < sizeLine ∧ 0 ≤ i ∧ i < 2 ^ 63 ∧ Q .non (upd H l (.lst (xs.take i.toNat ++ [y] ++ xs.drop i.toNat)))
theorem mt_insert2 : MtR X "list.insert" rIns := mt_insert
end
section
variable {K : PySem.W.Frag} {σ : L2.St} {H : Hp} {Q : VK} {QT : Bool → Hp → Prop} {te : TE} {tr : TA} {v x y : V} {QA : List V → Hp → Prop} {a : Addr} {xs : List V}
def KSt (K : PySem.W.Frag) (x : V) (t : TA) (σ : L2.St) (H : Hp) (QA : List V → Hp → Prop) : Prop := ∃ p xs, x = V.ref p ∧ (SqT K H p xs ∨ SqL K H p xs) ∧ t σ H fun ys H2 => QA (xs ++ ys) H2
theorem a_star (h : te σ H fun x H1 => KSt K x tr σ H1 QA) : tStar K te tr σ H QA := h
theorem k_st (hs : Sq K H a xs) (h : tr σ H fun ys H2 => QA (xs ++ ys) H2) : KSt K (.ref a) tr σ H QA := ⟨a, xs, rfl, hs.symm, h⟩
theorem k_trQ (hs : Sq K H a xs) (h : QT (!xs.isEmpty) H) : KTr K (.ref a) H QT := hs.elim (fun s => k_trL s h) fun s => k_trT s h
theorem b_lenQ (hs : Sq K H a xs) (h : Q (.int xs.length) H) : rLn K [.ref a] H Q := hs.elim (fun s => b_lenL s h) fun s => b_lenT s h
theorem o_ixQ {j : Int} (hs : Sq K H a xs) (e : atI xs j = some v) (h : Q v H) : rIx K (.ref a) (.int j) H Q := hs.elim (fun s => o_ixL s e h) fun s => o_ixT s e h
theorem ix_intQ {ns : List Int} {i : Int} (hs : Sq K H a (ns.map V.int)) (h0 : 0 ≤ i) (h1 : i < ns.length) (h : ∀ x : Int, ns[i.toNat]? = some x → Q (.int x) H) : rIx K (.ref a) (.int i) H Q := by
  have e := List.getElem?_eq_getElem (l := ns) (i := i.toNat) (by omega)
  exact o_ixQ hs (atI_of (j := i.toNat) (by omega) (v := .int ns[i.toNat]) (by rw [List.getElem?_map, e]; rfl)) (h _ e)
theorem m_ins {i : Int} (e : H a = some (.lst xs)) (hz : xs.length < sizeLine) (h0 : 0 ≤ i) (h1 : i ≤ xs.length) (h : ∀ H2, Chg a H H2 → H2 a = some (.lst (xs.take i.toNat ++ [y] ++ xs.drop i.toNat)) → Q .non H2) : rIns (.ref a) [.int i, y] H Q :=
  ⟨a, xs, i, y, rfl, rfl, e, hz, h0, by have : sizeLine = 16777216 := sizeLine_eq; omega, h _ chg_upd upd_same⟩
theorem m_popI {i : Int} (e : H a = some (.lst xs)) (hz : xs.length < sizeLine) (h0 : 0 ≤ i) (h1 : i < xs.length) (g : xs[i.toNat]? = some y) (h : ∀ H2, Chg a H H2 → H2 a = some (.lst (xs.eraseIdx i.toNat)) → Q y H2) : rPopAt (.ref a) [.int i] H Q := by
  have hs : sizeLine = 16777216 := sizeLine_eq
  refine ⟨a, xs, i, i.toNat, y, rfl, rfl, e, by omega, by omega, ?_, g, h _ chg_upd upd_same⟩
  unfold seqIndex?
  have : ¬ i < 0 := by omega
  simp [this, h0, h1]
/-- v[1:] of either kind, walked -/
theorem cut1 (xs : List V) : cutV xs (some 1) none = xs.drop 1 := by
  unfold cutV
  rw [show (1 : Int) = ((1 : Nat) : Int) from rfl, HT.sIx_nat]
  simp [HT.sIx]
  cases xs with
  | nil => rfl
  | cons x r => simp
theorem w_cut1 {b : Addr} {n : V} {r : List V} {i : Nat} {R : It → Hp → Prop} (hs : Sq K H b (n :: r)) (e : σ[i]? = some (some (.ref b))) (h : ∀ J p H2, Same H H2 → SqIt K p r J H2 → R J H2) :
    iSeq K (tSl (rSl3 K) (tVar i) (tPart (tC (.int 1))) tNoPart) σ H R := by
  have e1 : cutV (n :: r) (some 1) none = r := by rw [cut1]; rfl
  rcases hs with hs | hs
  · refine .inl (w_l (e_sl (e_var e (p_so (e_c (k_int (p_no ?_)))))))
    refine .inl (l_L hs fun p H2 np s2 e2 => ?_)
    rw [e1] at e2
    exact k_l (lst_of e2) (h _ p _ s2 (.inl ⟨rfl, lst_of e2⟩))
  · refine .inr (w_t (e_sl (e_var e (p_so (e_c (k_int (p_no ?_)))))))
    refine .inr ⟨b, n :: r, rfl, hs, fun c => ?_, fun _ => new_same (Q := fun x H1 => Wy.KT K x H1 R) fun p H2 np s2 e2 => ?_⟩
    · have := c.1
      rw [show (1 : Int) = ((1 : Nat) : Int) from rfl, HT.sIx_nat, List.length_cons] at this
      omega
    · rw [e1] at e2
      exact k_t (tup_of e2) (h _ p _ s2 (.inr ⟨rfl, tup_of e2⟩))
end
/-! ### chains -/
def dsAt (ds : List Df) (n : Int) : Df := ds.getD n.toNat (0, 0, 0)
def inB (m : Nat) (n : Int) : Bool := decide (0 ≤ n) && decide (n < (m : Int))
def runC : Df → List Df → Option Df
  | t, [] => some t
  | t, d :: r => if d.1 = t.2.1 then runC (t.1, d.2.1, t.2.2 + d.2.2) r else none
def csum (ds : List Df) : List Int → Option Df
  | [] => none
  | n :: r => if (n :: r).all (inB ds.length) = true then runC (dsAt ds n) (r.map (dsAt ds)) else none
def ringB (ds : List Df) (ns : List Int) : Bool := match csum ds ns with
  | none => false
  | some t => decide (t.1 = t.2.1) && decide (t.2.2 < 0)
def floorV (ds : List Df) (ns : List Int) (k : Int) : Option Int := match csum ds ns with
  | none => none
  | some t => if t.1 = 0 ∧ t.2.1 = k then some (-t.2.2) else none
theorem csum_cons {ds : List Df} {n : Int} {r : List Int} : csum ds (n :: r) = if (n :: r).all (inB ds.length) = true then runC (dsAt ds n) (r.map (dsAt ds)) else none := rfl
theorem ringB_none {ds : List Df} {ns : List Int} (e : csum ds ns = none) : ringB ds ns = false := by
  unfold ringB
  rw [e]
theorem ringB_some {ds : List Df} {ns : List Int} {t : Df} (e : csum ds ns = some t) : ringB ds ns = (decide (t.1 = t.2.1) && decide (t.2.2 < 0)) := by
  unfold ringB
  rw [e]
theorem floorV_none {ds : List Df} {ns : List Int} {k : Int} (e : csum ds ns = none) : floorV ds ns k = none := by
  unfold floorV
  rw [e]
theorem floorV_some {ds : List Df} {ns : List Int} {t : Df} {k : Int} (e : csum ds ns = some t) : floorV ds ns k = if t.1 = 0 ∧ t.2.1 = k then some (-t.2.2) else none := by
  unfold floorV
  rw [e]
inductive Path : List Df → Int → Int → Int → Prop
  | nil {u : Int} : Path [] u u 0
  | cons {r : List Df} {u v z c s : Int} : Path r v z s → Path ((u, v, c) :: r) u z (c + s)
theorem Path.app {b : List Df} {z t : Int} : ∀ {a : List Df} {u v s : Int}, Path a u v s → Path b v z t → Path (a ++ b) u z (s + t)
  | _, _, _, _, .nil, h => by
    rw [Int.zero_add]
    exact h
  | _, _, _, _, .cons p, h => by
    rw [Int.add_assoc]
    exact .cons (p.app h)
theorem Path.split {b : List Df} {z : Int} : ∀ {a : List Df} {u s : Int}, Path (a ++ b) u z s → ∃ m s1 s2, Path a u m s1 ∧ Path b m z s2 ∧ s = s1 + s2
  | [], u, s, h => ⟨u, 0, s, .nil, h, by omega⟩
  | d :: a, u, s, h => by
    cases h with
    | cons p =>
      obtain ⟨m, s1, s2, h1, h2, e⟩ := p.split
      exact ⟨m, _, s2, .cons h1, h2, by omega⟩
theorem Path.one {u v c : Int} : Path [(u, v, c)] u v c := by
  have := Path.cons (u := u) (c := c) (Path.nil (u := v))
  rwa [Int.add_zero] at this
theorem run_path {f : Int} : ∀ {es : List Df} {l z s t : Int}, Path es l z s → runC (f, l, t) es = some (f, z, t + s)
  | _, _, _, _, t, .nil => by rw [Int.add_zero]; rfl
  | _, _, _, _, t, .cons p => by
    unfold runC
    rw [if_pos rfl, run_path p]
    simp only [Option.some.injEq, Prod.mk.injEq, true_and]
    omega
theorem csum_path {ds : List Df} {ns : List Int} {u z s : Int} (h : ∀ n ∈ ns, 0 ≤ n ∧ n < ds.length) (p : Path (ns.map (dsAt ds)) u z s) (ne : ns ≠ []) : csum ds ns = some (u, z, s) := by
  cases ns with
  | nil => exact absurd rfl ne
  | cons n r =>
    show (if (n :: r).all (inB ds.length) = true then runC (dsAt ds n) (r.map (dsAt ds)) else none) = _
    rw [if_pos (List.all_eq_true.mpr fun x hx => by
      obtain ⟨h1, h2⟩ := h x hx
      unfold inB
      rw [decide_eq_true h1, decide_eq_true h2]
      rfl)]
    rw [List.map_cons] at p
    generalize dsAt ds n = d at p
    obtain ⟨a, b, c⟩ := d
    cases p with
    | cons p => exact run_path p
theorem kept_path {vs : List Int} : ∀ {es : List Df} {u z s : Int}, Path es u z s → (∀ d ∈ es, kept vs d = true) → lv vs u - lv vs z ≤ s
  | _, _, _, _, .nil, _ => by omega
  | _, u, z, _, .cons (v := v) (c := c) p, h => by
    have h1 := kept_path p fun d hd => h d (List.mem_cons_of_mem _ hd)
    have h2 := of_decide_eq_true (h (u, v, c) List.mem_cons_self)
    simp only at h2
    omega
theorem path_of (nd ws : Nat → Int) : ∀ n : Nat, Path ((List.range n).map fun k => (nd k, nd (k + 1), ws k)) (nd 0) (nd n) (((List.range n).map ws).sum)
  | 0 => .nil
  | n + 1 => by
    rw [List.range_succ, List.map_append, List.map_append, List.sum_append]
    refine (path_of nd ws n).app ?_
    simp only [List.map_cons, List.map_nil, List.sum_cons, List.sum_nil, Int.add_zero]
    exact Path.one
theorem path_rot {es : List Df} {u s : Int} (k : Nat) (p : Path es u u s) : ∃ m, Path (es.drop k ++ es.take k) m m s := by
  rw [← List.take_append_drop k es] at p
  obtain ⟨m, s1, s2, h1, h2, e⟩ := p.split
  refine ⟨m, ?_⟩
  rw [e, Int.add_comm]
  exact h2.app h1
theorem take_sum {ws : List Int} {n : Nat} (h : n ≤ ws.length) : (List.range n).map (fun k => ws.getD k 0) = ws.take n := by
  refine List.ext_getElem? fun j => ?_
  rw [List.getElem?_map, List.getElem?_take]
  by_cases hj : j < n
  · rw [List.getElem?_range hj, if_pos hj, List.getElem?_eq_getElem (by omega)]
    show some (ws.getD j 0) = _
    rw [List.getD_eq_getElem?_getD, List.getElem?_eq_getElem (by omega)]
    rfl
  · rw [List.getElem?_eq_none (by rw [List.length_range]; omega), if_neg hj]
    rfl
section
variable {K : PySem.W.Frag}
/-- the sum of a chain -/
def spChain (K : PySem.W.Frag) : Sp := fun vs H Q _ => ∃ (a b : Addr) (us : List V) (ds : List Df) (ns : List Int), vs = [.ref a, .ref b] ∧ Sq K H a us ∧ TpAll H us (ds.map dfD) ∧ Sq K H b (ns.map V.int) ∧ ds.length ≤ 1000 ∧ ns.length ≤ 1000 ∧
  (csum ds ns = none → ∀ H', Same H H' → Q .non H') ∧ ∀ t : Df, csum ds ns = some t → ∀ p H', Same H H' → H p = none → H' p = some (.tup [.int t.1, .int t.2.1, .int t.2.2]) → Q (.ref p) H'
def spRing (K : PySem.W.Frag) : Sp := fun vs H Q _ => ∃ (a b : Addr) (us : List V) (ds : List Df) (ns : List Int), vs = [.ref a, .ref b] ∧ Sq K H a us ∧ TpAll H us (ds.map dfD) ∧ Sq K H b (ns.map V.int) ∧ ds.length ≤ 1000 ∧ ns.length ≤ 1000 ∧
  ∀ H', Same H H' → Q (.bl (ringB ds ns)) H'
def oI : Option Int → V
  | none => .non
  | some i => .int i
def spFloor (K : PySem.W.Frag) : Sp := fun vs H Q _ => ∃ (a b : Addr) (us : List V) (ds : List Df) (ns : List Int) (k : Int), vs = [.ref a, .ref b, .int k] ∧ Sq K H a us ∧ TpAll H us (ds.map dfD) ∧ Sq K H b (ns.map V.int) ∧ ds.length ≤ 1000 ∧ ns.length ≤ 1000 ∧
  ∀ H', Same H H' → Q (oI (floorV ds ns k)) H'
def spKeeps (K : PySem.W.Frag) : Sp := fun vs H Q _ => ∃ (a b : Addr) (us : List V) (ds : List Df) (vals : List Int), vs = [.ref a, .ref b] ∧ Sq K H a us ∧ TpAll H us (ds.map dfD) ∧ Sq K H b (vals.map V.int) ∧ (∀ d ∈ ds, InR vals.length d) ∧
  ds.length ≤ 1000 ∧ vals.length ≤ 900 ∧ ∀ H', Same H H' → Q (.bl (ds.all (kept vals))) H'
def spTells : Sp := fun vs H Q _ => ∃ x y : Bool, vs = [.bl x, .bl y] ∧ Q (.bl (decide (x = y))) H
def spWt : Sp := fun vs H Q _ => ∃ d : Int, vs = [.int d] ∧ ∀ r : Int, Q (.int r) H
def spDiffs (K : PySem.W.Frag) : Sp := fun vs H Q _ => ∃ (a : Addr) (zs : List Int) (pl : Int) (n m : Nat), vs = [.ref a, .int pl, .int n, .int m] ∧ SqL K H a (zs.map V.int) ∧ n ≤ 100 ∧ m ≤ 1000 ∧
  ∀ p us H' ds, Same H H' → H p = none → H' p = some (.lst us) → TpAll H' us ((ds : List Df).map dfD) → ds.length = n → (∀ d ∈ ds, InR m d) → Q (.ref p) H'
end
end WC
/-! WE: comprehensions of the laws. -/
namespace WE
open PySem PySem.Spec PyProof.Rows L2 Wy WN WQ WS WC
section
variable {K : PySem.W.Frag} {σ : L2.St} {H : Hp} {Q : VK} {te : TE} {vs : List Nat} {i : Nat} {a : Addr}
/-- one value again and again -/
theorem c_const {lo : Int} {n : Nat} {v : V} (hte : ∀ σ H (N : VK), N v H → te σ H N) (hz : n ≤ 100000) (hw : ∀ x, wipe ((wipe σ vs).set i (some x)) vs = wipe σ vs) (post : ∀ D H2, H D = none → Same H H2 → H2 D = some (.lst (List.replicate n v)) → Q (.ref D) H2) :
    LoopC (Itr lo n) (gName i) tYes te vs σ H Q := by
  refine c_accR (One fun _ y _ => y = v) (fun _ _ _ _ _ h => h) (fun i acc H hi h => small1000' (by rw [h.1]; omega)) One.zero (fun j H1 acc N M hj s1 o hN hM => ?_) (fun D H1 ys nD s1 e1 o => ?_)
  · refine g_name ⟨hw _, t_yes ?_⟩
    exact iteTT rfl (hte _ _ _ (hN _ _ (Same.refl _) (o.snoc (fun _ _ h => h) rfl)))
  · rw [o.const] at e1
    exact post D H1 nD s1 e1
theorem c_constI {lo : Int} {n : Nat} {c : Int} (hte : ∀ σ H (N : VK), N (.int c) H → te σ H N) (hz : n ≤ 100000) (hw : ∀ x, wipe ((wipe σ vs).set i (some x)) vs = wipe σ vs) (post : ∀ D H2, H D = none → Same H H2 → H2 D = some (.lst ((List.replicate n c).map V.int)) → Q (.ref D) H2) :
    LoopC (Itr lo n) (gName i) tYes te vs σ H Q := c_const hte hz hw fun D H2 nD s e => post D H2 nD s (by rw [List.map_replicate]; exact e)
/-- an int from each int -/
theorem c_ints {xs : List Int} (hs : SqL K H a (xs.map V.int)) (hte : ∀ (x : Int) H (N : VK), (∀ r : Int, N (.int r) H) → te ((wipe σ vs).set i (some (.int x))) H N) (hz : xs.length ≤ 100000) (hw : ∀ x, wipe ((wipe σ vs).set i (some x)) vs = wipe σ vs)
    (post : ∀ D H2 (rs : List Int), H D = none → Same H H2 → rs.length = xs.length → H2 D = some (.lst (rs.map V.int)) → Q (.ref D) H2) : LoopC (Itl K a) (gName i) tYes te vs σ H Q := by
  refine c_acc (xs := xs.map V.int) (.inl ⟨rfl, hs⟩) (One fun _ y _ => ∃ r : Int, y = .int r) (fun _ _ _ _ _ h => h) (fun i acc H hi h => small1000' (by rw [h.1]; rw [List.length_map] at hi; omega)) One.zero (fun j x H1 acc N M hx s1 o hN hM => ?_) (fun D H1 ys nD s1 e1 o => ?_)
  · rw [List.getElem?_map] at hx
    obtain ⟨d, gd, rfl⟩ := Option.map_eq_some_iff.mp hx
    refine g_name ⟨hw _, t_yes ?_⟩
    exact iteTT rfl (hte _ _ _ fun r => hN _ _ (Same.refl _) (o.snoc (fun _ _ h => h) ⟨r, rfl⟩))
  · rw [List.length_map] at o
    obtain ⟨rs, rfl, lr⟩ := o.ints fun _ _ _ h => h
    exact post D H1 rs nD s1 lr e1
/-- ints by place -/
theorem c_rng {lo : Int} {n : Nat} (F : Nat → Int) (hte : ∀ (j : Nat) H (N : VK), j < n → N (.int (F j)) H → te ((wipe σ vs).set i (some (.int (lo + j)))) H N) (hz : n ≤ 100000) (hw : ∀ x, wipe ((wipe σ vs).set i (some x)) vs = wipe σ vs)
    (post : ∀ D H2, H D = none → Same H H2 → H2 D = some (.lst (((List.range n).map F).map V.int)) → Q (.ref D) H2) : LoopC (Itr lo n) (gName i) tYes te vs σ H Q := by
  refine c_accR (One fun j y _ => y = .int (F j)) (fun _ _ _ _ _ h => h) (fun i acc H hi h => small1000' (by rw [h.1]; omega)) One.zero (fun j H1 acc N M hj s1 o hN hM => ?_) (fun D H1 ys nD s1 e1 o => ?_)
  · refine g_name ⟨hw _, t_yes ?_⟩
    exact iteTT rfl (hte _ _ _ hj (hN _ _ (Same.refl _) (o.snoc (fun _ _ h => h) rfl)))
  · have ey := o.eqR fun j y _ h => h
    rw [ey] at e1
    exact post D H1 nD s1 (by rw [List.map_map]; exact e1)
/-- one datum by place -/
theorem c_tps {lo : Int} {n : Nat} (F : Nat → PyData) (hte : ∀ (j : Nat) H1 (N : VK), j < n → Same H H1 → (∀ y H3, Same H1 H3 → Tp H3 y (F j) → N y H3) → te ((wipe σ vs).set i (some (.int (lo + j)))) H1 N) (hz : n ≤ 100000) (hw : ∀ x, wipe ((wipe σ vs).set i (some x)) vs = wipe σ vs)
    (post : ∀ D H2 us, H D = none → Same H H2 → H2 D = some (.lst us) → TpAll H2 us ((List.range n).map F) → Q (.ref D) H2) : LoopC (Itr lo n) (gName i) tYes te vs σ H Q := by
  refine c_accR (One fun j y H => Tp H y (F j)) (fun i acc H H' k h => ⟨h.1, fun j y e => (h.2 j y e).tk k⟩) (fun i acc H hi h => small1000' (by rw [h.1]; omega)) One.zero (fun j H1 acc N M hj s1 o hN hM => ?_) (fun D H1 ys nD s1 e1 o => ?_)
  · refine g_name ⟨hw _, t_yes ?_⟩
    exact iteTT rfl (hte _ _ _ hj s1 fun y H3 s3 t => hN _ _ s3 (o.snoc (fun _ _ h => h.tk s3.tk) t))
  · exact post D H1 ys nD s1 e1 (tpOne o fun j y _ h => h)
theorem o_isB {a b : Bool} (h : Q (.bl (decide (a = b))) H) : rIsB (.bl a) (.bl b) H Q := ⟨a, b, rfl, rfl, h⟩
theorem o_ntB {a b : Bool} (h : Q (.bl (!decide (a = b))) H) : rNotB (.bl a) (.bl b) H Q := ⟨a, b, rfl, rfl, h⟩
theorem cutTo (xs : List V) {i : Int} (h : 0 ≤ i) : cutV xs none (some i) = xs.take i.toNat := by
  obtain ⟨k, rfl⟩ : ∃ k : Nat, i = k := ⟨i.toNat, by omega⟩
  unfold cutV
  rw [HT.sIx_nat, HT.sIx_none, List.drop_zero, Nat.sub_zero, Int.toNat_natCast]
  by_cases hk : k ≤ xs.length
  · rw [Nat.min_eq_left hk]
  · rw [Nat.min_eq_right (by omega), List.take_of_length_le (Nat.le_refl _), List.take_of_length_le (by omega)]
theorem cutFrom (xs : List V) {i : Int} (h : 0 ≤ i) : cutV xs (some i) none = xs.drop i.toNat := by
  obtain ⟨k, rfl⟩ : ∃ k : Nat, i = k := ⟨i.toNat, by omega⟩
  unfold cutV
  rw [HT.sIx_nat, HT.sIx_none, Int.toNat_natCast]
  by_cases hk : k ≤ xs.length
  · rw [Nat.min_eq_left hk, List.take_of_length_le (by rw [List.length_drop]; omega)]
  · rw [Nat.min_eq_right (by omega), List.drop_of_length_le (Nat.le_refl _), List.drop_of_length_le (by omega)]
    simp
theorem ne_ints {H : Hp} {a b v : Addr} {rs : List V} {xs : List Int} (h1 : H a = some (.lst (.ref v :: rs))) (h2 : H b = some (.lst (xs.map V.int))) : b ≠ a := by
  intro e
  subst e
  rw [h1] at h2
  cases xs <;> cases h2
end
end WE
namespace K15
open PySem PySem.Spec PyProof.Rows L2 Wy
/-! ### the text -/
def top (i : Nat) : Stmt := PySem.Challenge.pw_wayorring_k15_no_values_keep_a_ring.main.body.getD i (.Pass ⟨0, 0, 0, 0⟩)
abbrev s_chain_sum : Stmt := top 1
abbrev n_chain_sum : List Str := ["differences", "numbers", "number", "first", "last", "total", "u", "v", "c"]
theorem sc_chain_sum : FnScope n_chain_sum ["differences", "numbers"] (defScope s_chain_sum) := C8.fnScope_by (by decide +kernel)
abbrev s_is_ring : Stmt := top 2
abbrev n_is_ring : List Str := ["differences", "numbers", "found"]
theorem sc_is_ring : FnScope n_is_ring ["differences", "numbers"] (defScope s_is_ring) := C8.fnScope_by (by decide +kernel)
abbrev s_floor_value : Stmt := top 3
abbrev n_floor_value : List Str := ["differences", "numbers", "unknown", "found"]
theorem sc_floor_value : FnScope n_floor_value ["differences", "numbers", "unknown"] (defScope s_floor_value) := C8.fnScope_by (by decide +kernel)
abbrev s_keeps : Stmt := top 4
abbrev n_keeps : List Str := ["differences", "values", "known", "u", "v", "c"]
theorem sc_keeps : FnScope n_keeps ["differences", "values"] (defScope s_keeps) := C8.fnScope_by (by decide +kernel)
abbrev s_law_cell : Stmt := top 6
abbrev n_law_cell : List Str := ["script", "k"]
theorem sc_law_cell : FnScope n_law_cell ["script", "k"] (defScope s_law_cell) := C8.fnScope_by (by decide +kernel)
abbrev s_law_draws : Stmt := top 7
abbrev n_law_draws : List Str := ["script", "place", "sizes", "primes", "cell", "rest", "draws", "k", "first", "mixed"]
theorem sc_law_draws : FnScope n_law_draws ["script", "place", "sizes"] (defScope s_law_draws) := C8.fnScope_by (by decide +kernel)
abbrev s_law_weight : Stmt := top 8
abbrev n_law_weight : List Str := ["draw", "kind", "rest"]
theorem sc_law_weight : FnScope n_law_weight ["draw"] (defScope s_law_weight) := C8.fnScope_by (by decide +kernel)
abbrev s_law_differences : Stmt := top 9
abbrev n_law_differences : List Str := ["script", "place", "count", "many", "differences", "k", "draws"]
theorem sc_law_differences : FnScope n_law_differences ["script", "place", "count", "many"] (defScope s_law_differences) := C8.fnScope_by (by decide +kernel)
abbrev s_law_is_integer : Stmt := top 10
abbrev n_law_is_integer : List Str := ["value"]
theorem sc_law_is_integer : FnScope n_law_is_integer ["value"] (defScope s_law_is_integer) := C8.fnScope_by (by decide +kernel)
abbrev s_law_tells : Stmt := top 11
abbrev n_law_tells : List Str := ["value", "expected"]
theorem sc_law_tells : FnScope n_law_tells ["value", "expected"] (defScope s_law_tells) := C8.fnScope_by (by decide +kernel)
abbrev s_law_picked : Stmt := top 12
abbrev n_law_picked : List Str := ["draws", "many", "pool", "picked", "draw", "k"]
theorem sc_law_picked : FnScope n_law_picked ["draws", "many"] (defScope s_law_picked) := C8.fnScope_by (by decide +kernel)
abbrev s_law_placed : Stmt := top 13
abbrev n_law_placed : List Str := ["script", "edges", "others", "k", "draws", "placed", "order", "at", "one"]
theorem sc_law_placed : FnScope n_law_placed ["script", "edges", "others"] (defScope s_law_placed) := C8.fnScope_by (by decide +kernel)
abbrev s_law_tight : Stmt := top 14
abbrev n_law_tight : List Str := ["nodes", "weights", "many", "k", "level", "entry"]
theorem sc_law_tight : FnScope n_law_tight ["nodes", "weights", "many"] (defScope s_law_tight) := C8.fnScope_by (by decide +kernel)
abbrev s_law_rows : Stmt := top 15
abbrev n_law_rows : List Str := ["script", "values", "at", "rows", "step", "row", "draw", "k"]
theorem sc_law_rows : FnScope n_law_rows ["script", "values", "at"] (defScope s_law_rows) := C8.fnScope_by (by decide +kernel)
abbrev s_law : Stmt := top 16
abbrev n_law : List Str := ["script", "shape", "many", "nodes", "weights", "others", "count", "target", "edges", "placed", "numbers", "at", "values", "row", "floor", "rows", "kept", "draw", "k", "node"]
theorem sc_law : FnScope n_law ["script"] (defScope s_law) := C8.fnScope_by (by decide +kernel)
/-! ### what the top has made -/
structure Tx (K : PySem.W.Frag) (mg : Str → Option Value) : Prop where
  d_chain_sum : DefOk K mg "chain_sum" s_chain_sum
  d_is_ring : DefOk K mg "is_ring" s_is_ring
  d_floor_value : DefOk K mg "floor_value" s_floor_value
  d_keeps : DefOk K mg "keeps" s_keeps
  d_law_cell : DefOk K mg "_law_cell" s_law_cell
  d_law_draws : DefOk K mg "_law_draws" s_law_draws
  d_law_weight : DefOk K mg "_law_weight" s_law_weight
  d_law_differences : DefOk K mg "_law_differences" s_law_differences
  d_law_is_integer : DefOk K mg "_law_is_integer" s_law_is_integer
  d_law_tells : DefOk K mg "_law_tells" s_law_tells
  d_law_picked : DefOk K mg "_law_picked" s_law_picked
  d_law_placed : DefOk K mg "_law_placed" s_law_placed
  d_law_tight : DefOk K mg "_law_tight" s_law_tight
  d_law_rows : DefOk K mg "_law_rows" s_law_rows
  d_law : DefOk K mg "law" s_law
  z_abs : mg "abs" = none
  z_all : mg "all" = none
  z_bool : mg "bool" = none
  z_int : mg "int" = none
  z_isinstance : mg "isinstance" = none
  z_len : mg "len" = none
  z_list : mg "list" = none
  z_range : mg "range" = none
  z_sum : mg "sum" = none
/-! ### the head -/
def fn : List He.DefD := [⟨("chain_sum", none), "chain_sum", "chain_sum", defArgs s_chain_sum, defBody s_chain_sum, defScope s_chain_sum, [], []⟩, ⟨("is_ring", none), "is_ring", "is_ring", defArgs s_is_ring, defBody s_is_ring, defScope s_is_ring, [], []⟩, ⟨("floor_value", none), "floor_value", "floor_value", defArgs s_floor_value, defBody s_floor_value, defScope s_floor_value, [], []⟩, ⟨("keeps", none), "keeps", "keeps", defArgs s_keeps, defBody s_keeps, defScope s_keeps, [], []⟩, ⟨("_law_cell", none), "_law_cell", "_law_cell", defArgs s_law_cell, defBody s_law_cell, defScope s_law_cell, [], []⟩, ⟨("_law_draws", none), "_law_draws", "_law_draws", defArgs s_law_draws, defBody s_law_draws, defScope s_law_draws, [], []⟩, ⟨("_law_weight", none), "_law_weight", "_law_weight", defArgs s_law_weight, defBody s_law_weight, defScope s_law_weight, [], []⟩, ⟨("_law_differences", none), "_law_differences", "_law_differences", defArgs s_law_differences, defBody s_law_differences, defScope s_law_differences, [], []⟩, ⟨("_law_is_integer", none), "_law_is_integer", "_law_is_integer", defArgs s_law_is_integer, defBody s_law_is_integer, defScope s_law_is_integer, [], []⟩, ⟨("_law_tells", none), "_law_tells", "_law_tells", defArgs s_law_tells, defBody s_law_tells, defScope s_law_tells, [], []⟩, ⟨("_law_picked", none), "_law_picked", "_law_picked", defArgs s_law_picked, defBody s_law_picked, defScope s_law_picked, [], []⟩, ⟨("_law_placed", none), "_law_placed", "_law_placed", defArgs s_law_placed, defBody s_law_placed, defScope s_law_placed, [], []⟩, ⟨("_law_tight", none), "_law_tight", "_law_tight", defArgs s_law_tight, defBody s_law_tight, defScope s_law_tight, [], []⟩, ⟨("_law_rows", none), "_law_rows", "_law_rows", defArgs s_law_rows, defBody s_law_rows, defScope s_law_rows, [], []⟩, ⟨("law", none), "law", "law", defArgs s_law, defBody s_law, defScope s_law, [], []⟩]
def fa : List He.Fa := [.glo "chain_sum", .glo "is_ring", .glo "floor_value", .glo "keeps", .glo "_law_cell", .glo "_law_draws", .glo "_law_weight", .glo "_law_differences", .glo "_law_is_integer", .glo "_law_tells", .glo "_law_picked", .glo "_law_placed", .glo "_law_tight", .glo "_law_rows", .glo "law", .free "abs", .free "all", .free "bool", .free "int", .free "isinstance", .free "len", .free "list", .free "range", .free "sum"]
def ts : List He.Tab := []
def ex (K : PySem.W.Frag) : Bool := true
abbrev R : PySem.W.OpenRow := PySem.W.OpenLaw.row PySem.Challenge.rw_wayorring_k15_no_values_keep_a_ring
abbrev hk : PySem.W.Hook := He.hookX 4 fa fn ts [] ex
def ob (s : PySem.W.SharedT) : He.AlX := He.obsX 4 fa fn ts [] ex (HandSHeadRun.getT s)
theorem ob_eq (s : PySem.W.SharedT) : ob s = hk.obs s.abs := He.obsX_eq (HandSHeadRun.getT_eq s)
def loose : List Str := (["chain_sum", "is_ring", "floor_value", "keeps", "_law_cell", "_law_draws", "_law_weight", "_law_differences", "_law_is_integer", "_law_tells", "_law_picked", "_law_placed", "_law_tight", "_law_rows"] : List Str)
set_option maxHeartbeats 0 in
theorem run (w : World) : HandSHeadRun.RunEq R (PySem.W.view R.prog [16]) hk ob 20000 loose w := by
  intro os
  kernel_rfl
theorem tx_of {w : World} {K : PySem.W.Frag} {h h2 : Heap} {mg : Str → Option Value} (X : K.In h) (G : h.Ns mainGlobals mg) (c2 : He.SaysX fa fn ts [] ex w h2 K) : Tx K mg := by
  have c := c2.t.d
  have m : ex K = true := c2.more
  refine ⟨?_, ?_, ?_, ?_, ?_, ?_, ?_, ?_, ?_, ?_, ?_, ?_, ?_, ?_, ?_, ?_, ?_, ?_, ?_, ?_, ?_, ?_, ?_, ?_⟩
  · obtain ⟨fd, F⟩ := c.def_ 0 rfl
    exact ⟨_, fd, F, He.glo_ok X G (c.fact 0 (f := .glo "chain_sum") rfl)⟩
  · obtain ⟨fd, F⟩ := c.def_ 1 rfl
    exact ⟨_, fd, F, He.glo_ok X G (c.fact 1 (f := .glo "is_ring") rfl)⟩
  · obtain ⟨fd, F⟩ := c.def_ 2 rfl
    exact ⟨_, fd, F, He.glo_ok X G (c.fact 2 (f := .glo "floor_value") rfl)⟩
  · obtain ⟨fd, F⟩ := c.def_ 3 rfl
    exact ⟨_, fd, F, He.glo_ok X G (c.fact 3 (f := .glo "keeps") rfl)⟩
  · obtain ⟨fd, F⟩ := c.def_ 4 rfl
    exact ⟨_, fd, F, He.glo_ok X G (c.fact 4 (f := .glo "_law_cell") rfl)⟩
  · obtain ⟨fd, F⟩ := c.def_ 5 rfl
    exact ⟨_, fd, F, He.glo_ok X G (c.fact 5 (f := .glo "_law_draws") rfl)⟩
  · obtain ⟨fd, F⟩ := c.def_ 6 rfl
    exact ⟨_, fd, F, He.glo_ok X G (c.fact 6 (f := .glo "_law_weight") rfl)⟩
  · obtain ⟨fd, F⟩ := c.def_ 7 rfl
    exact ⟨_, fd, F, He.glo_ok X G (c.fact 7 (f := .glo "_law_differences") rfl)⟩
  · obtain ⟨fd, F⟩ := c.def_ 8 rfl
    exact ⟨_, fd, F, He.glo_ok X G (c.fact 8 (f := .glo "_law_is_integer") rfl)⟩
  · obtain ⟨fd, F⟩ := c.def_ 9 rfl
    exact ⟨_, fd, F, He.glo_ok X G (c.fact 9 (f := .glo "_law_tells") rfl)⟩
  · obtain ⟨fd, F⟩ := c.def_ 10 rfl
    exact ⟨_, fd, F, He.glo_ok X G (c.fact 10 (f := .glo "_law_picked") rfl)⟩
  · obtain ⟨fd, F⟩ := c.def_ 11 rfl
    exact ⟨_, fd, F, He.glo_ok X G (c.fact 11 (f := .glo "_law_placed") rfl)⟩
  · obtain ⟨fd, F⟩ := c.def_ 12 rfl
    exact ⟨_, fd, F, He.glo_ok X G (c.fact 12 (f := .glo "_law_tight") rfl)⟩
  · obtain ⟨fd, F⟩ := c.def_ 13 rfl
    exact ⟨_, fd, F, He.glo_ok X G (c.fact 13 (f := .glo "_law_rows") rfl)⟩
  · obtain ⟨fd, F⟩ := c.def_ 14 rfl
    exact ⟨_, fd, F, He.glo_ok X G (c.fact 14 (f := .glo "law") rfl)⟩
  · exact He.free_ok X G (c.fact 15 (f := .free "abs") rfl)
  · exact He.free_ok X G (c.fact 16 (f := .free "all") rfl)
  · exact He.free_ok X G (c.fact 17 (f := .free "bool") rfl)
  · exact He.free_ok X G (c.fact 18 (f := .free "int") rfl)
  · exact He.free_ok X G (c.fact 19 (f := .free "isinstance") rfl)
  · exact He.free_ok X G (c.fact 20 (f := .free "len") rfl)
  · exact He.free_ok X G (c.fact 21 (f := .free "list") rfl)
  · exact He.free_ok X G (c.fact 22 (f := .free "range") rfl)
  · exact He.free_ok X G (c.fact 23 (f := .free "sum") rfl)
def spLaw (K : PySem.W.Frag) : Sp := fun vs H Q _ => ∃ (a : Addr) (ns : List Int), vs = [.ref a] ∧ SqL K H a (ns.map V.int) ∧ ns.length ≤ 63 ∧ ∀ H', Q (.bl true) H'
end K15
namespace K15
open PySem PySem.Spec PyProof.Rows L2 Wy WN

-- WIDE
section
variable {P : Program} {w : World} {K : PySem.W.Frag} {mg : Str → Option Value} {base : Heap}
theorem k_law_cell (T : Tx K mg) : C8.Cal P w K mg base 1 "_law_cell" (spCellN K) [] := by
  refine cal_of (N := n_law_cell) T.d_law_cell sc_law_cell (fun _ _ F => F.bindsN fun _ _ _ _ _ _ us hl => match us, hl with | [_, _], _ => rfl) (fun vs H Q E h => ?_) (fun f cdv A outer s H vs Q E hr h => ?_)
  · obtain ⟨a, ns, k, rfl, _⟩ := h
    rfl
  · obtain ⟨a, ns, k, rfl, hS, q⟩ := h
    refine ⟨_, (pss_cons (ps_if (pt_cmpR op_gt (pe_callB (call_len2 : CallR _ _ (rLn K)) (by rfl) T.z_len (by decide +kernel) (pa_cons (pv 0) pa_nil)) pe_int (nomark _)) (pss_one (ps_ret (pe_ix (ix_seq : IxR _ (rIx K)) (pv 0) (pe_op op_mod (pe_callTy call_int2 (by rfl) T.z_int (by decide +kernel) (pa_cons (pv 1) pa_nil)) (pe_callB (call_len2 : CallR _ _ (rLn K)) (by rfl) T.z_len (by decide +kernel) (pa_cons (pv 0) pa_nil))) (fun _ _ => rfl)))) pss_nil) (pss_one (ps_ret pe_int))), ?_⟩
    walk_at "ss"
    refine b_lenL hS ?_
    walk_at "ss"
    refine iteD (fun e => ?_) (fun e => ?_)
    · rw [List.length_map] at e
      walk_at "ss"
      refine b_lenL hS ?_
      rw [List.length_map]
      refine o_modG e fun r r0 r1 => ?_
      refine ix_int hS r0 r1 fun x _ => ?_
      exact q x
    · walk_at "ss"
      exact q 0
theorem k_law_draws (T : Tx K mg) : C8.Cal P w K mg base 2 "_law_draws" (spDraws K) [] := by
  refine cal_of (N := n_law_draws) T.d_law_draws sc_law_draws (fun _ _ F => F.bindsN fun _ _ _ _ _ _ us hl => match us, hl with | [_, _, _], _ => rfl) (fun vs H Q E h => ?_) (fun f cdv A outer s H vs Q E hr h => ?_)
  · obtain ⟨a, b, ns, ss, k, rfl, _⟩ := h
    rfl
  · obtain ⟨a, b, ns, ss, k, rfl, hS, hB, hz, q⟩ := h
    refine ⟨_, (pss_cons (ps_asg (pe_lst (pa_cons pe_int (pa_cons pe_int (pa_cons pe_int (pa_cons pe_int (pa_cons pe_int (pa_cons pe_int (pa_cons pe_int (pa_cons pe_int pa_nil))))))))) (pg_name (i := 3) sc_law_draws.nd rfl (Or.inl rfl))) (pss_cons (ps_asg (pe_callB call_abs2 (by rfl) T.z_abs (by decide +kernel) (pa_cons (C8.pe_c (k_law_cell T) hr (by first | decide | omega) (by rfl) (pa_cons (pv 0) (pa_cons (pv 1) pa_nil))) pa_nil)) (pg_name (i := 4) sc_law_draws.nd rfl (Or.inl rfl))) (pss_cons (ps_asg pe_int (pg_name (i := 5) sc_law_draws.nd rfl (Or.inl rfl))) (C8.pss_cut (ps_if (pt_cmpR op_ge (pv 4) (pe_op op_pow pe_int pe_int) (nomark _)) (pss_one (ps_asg (pv 4) (pg_name (i := 5) sc_law_draws.nd rfl (Or.inl rfl)))) pss_nil) (pss_cons (ps_asg (pe_lst pa_nil) (pg_name (i := 6) sc_law_draws.nd rfl (Or.inl rfl))) (pss_cons (ps_for PassesOwn.never rfl (pi_range1 (by rfl) T.z_range (pa_cons (pe_callB (call_len2 : CallR _ _ (rLn K)) (by rfl) T.z_len (by decide +kernel) (pa_cons (pv 2) pa_nil)) pa_nil)) (pg_name (i := 7) sc_law_draws.nd rfl (Or.inl rfl)) (pss_one (ps_if (pt_cmpR op_gt (pv 5) pe_int (nomark _)) (pss_cons (ps_expr (pe_bm PySem.F.plainAttrs_list PySem.F.slot_list_append PySem.F.type_list_append mt_append (pv 6) (pa_cons (pe_op op_mod (pe_callTy call_int2 (by rfl) T.z_int (by decide +kernel) (pa_cons (pv 5) pa_nil)) (pe_ix (ix_seq : IxR _ (rIx K)) (pv 2) (pv 7) (fun _ _ => rfl))) pa_nil) : PE _ _ (tBM K _ _ _ _))) (pss_one (ps_asg (pe_op op_fdivW (pv 5) (pe_ix (ix_seq : IxR _ (rIx K)) (pv 2) (pv 7) (fun _ _ => rfl))) (pg_name (i := 5) sc_law_draws.nd rfl (Or.inl rfl))))) (pss_cons (ps_asg (pe_op op_mod (pe_callTy call_int2 (by rfl) T.z_int (by decide +kernel) (pa_cons (pe_op op_add3 (pe_op op_mul2 (pe_op op_add3 (pe_op op_add3 (pe_op op_add3 (pv 4) pe_int) (pe_op op_mul2 pe_int (pv 1))) (pv 7)) pe_int) (pe_op op_mul2 pe_int (pv 7))) pa_nil)) (pe_ix (ix_seq : IxR _ (rIx K)) (pv 3) (pe_op op_mod (pv 7) pe_int) (fun _ _ => rfl))) (pg_name (i := 8) sc_law_draws.nd rfl (Or.inl rfl))) (pss_cons (ps_asg (pe_op op_mod (pe_callTy call_int2 (by rfl) T.z_int (by decide +kernel) (pa_cons (pe_op op_add3 (pe_op op_add3 (pe_op op_mul2 (pv 8) (pv 8)) (pe_op op_mul2 pe_int (pv 7))) (pv 1)) pa_nil)) (pe_ix (ix_seq : IxR _ (rIx K)) (pv 3) (pe_op op_mod (pe_op op_add3 (pv 7) pe_int) pe_int) (fun _ _ => rfl))) (pg_name (i := 9) sc_law_draws.nd rfl (Or.inl rfl))) (pss_cons (ps_asg (pe_op op_mod (pe_callTy call_int2 (by rfl) T.z_int (by decide +kernel) (pa_cons (pe_op op_add3 (pe_op op_add3 (pe_op op_mul2 (pv 9) pe_int) (pe_op op_mul2 (pv 8) pe_int)) (pv 7)) pa_nil)) (pe_ix (ix_seq : IxR _ (rIx K)) (pv 3) (pe_op op_mod (pe_op op_add3 (pv 7) pe_int) pe_int) (fun _ _ => rfl))) (pg_name (i := 9) sc_law_draws.nd rfl (Or.inl rfl))) (pss_one (ps_expr (pe_bm PySem.F.plainAttrs_list PySem.F.slot_list_append PySem.F.type_list_append mt_append (pv 6) (pa_cons (pe_op op_mod (pe_callTy call_int2 (by rfl) T.z_int (by decide +kernel) (pa_cons (pe_op op_fdivW (pv 9) pe_int) pa_nil)) (pe_ix (ix_seq : IxR _ (rIx K)) (pv 2) (pv 7) (fun _ _ => rfl))) pa_nil) : PE _ _ (tBM K _ _ _ _)))))))))) (pss_one (ps_ret (pv 6))))))))), ?_⟩
    walk_at "ss"
    refine n_obj (lz (Nat.le_of_ble_eq_true rfl)) fun pr H1 np s1 e1 => ?_
    walk_at "ss"
    refine ⟨a, ns, k, rfl, s1.seq hS, fun cell => ?_⟩
    walk_at "ss"
    refine s_cut (fun σ H' => ∃ rest : Int, σ = [some (.ref a), some (.int k), some (.ref b), some (.ref pr), some (.int (if cell < 0 then -cell else cell)), some (.int rest), none, none, none, none] ∧ H1 = H') ?_ (fun σ H' p => ?_)
    · walk_at "ss"
      refine iteD (fun e => ?_) (fun e => ?_)
      · walk_at "ss"
        exact ⟨_, rfl, rfl⟩
      · walk_at "ss"
        exact ⟨_, rfl, rfl⟩
    obtain ⟨rest, rfl, rfl⟩ := p
    generalize (if cell < 0 then -cell else cell) = cell
    walk_at "ss"
    refine n_obj (lz (Nat.le_of_ble_eq_true rfl)) fun d H2 nd s2 e2 => ?_
    have hB2 := (s1.trans s2).seq hB
    walk_at "ss"
    refine b_lenL hB2 ?_
    have hl := hz.1
    walk_at "ss"
    rw [List.length_map]
    refine k_r1 (by omega) (by omega) ?_
    refine f_range (fun i σ H' => ∃ x y z, ∃ rest : Int, ∃ ds : List Int, σ = [some (.ref a), some (.int k), some (.ref b), some (.ref pr), some (.int cell), some (.int rest), some (.ref d), x, y, z] ∧ Same H1 H' ∧ H' d = some (.lst (ds.map V.int)) ∧ Dr ds (ss.take i))
      ⟨_, _, _, _, [], rfl, s2, e2, .nil⟩ (fun i σ H3 hi p => ?_) (fun σ H3 p => ?_)
    · obtain ⟨x, y, z, rest, ds, rfl, s3, e3, hd⟩ := p
      have hi : i < ss.length := hi
      have gi := List.getElem?_eq_getElem hi
      obtain ⟨z0, z1⟩ := hz.2 _ (List.getElem_mem hi)
      have hB3 := (s1.trans s3).seq hB
      have ep := s3 _ _ e1
      have ln : (ds.map V.int).length < sizeLine := by
        have := hd.len
        rw [List.length_take] at this
        exact small1000' (by rw [List.length_map]; omega)
      have snoc : ∀ d' : Int, 0 ≤ d' → d' < ss[i] → Dr (ds ++ [d']) (ss.take (i + 1)) := fun d' h0 h1 => by
        rw [List.take_succ, gi]
        exact hd.snoc h0 h1
      have gg : (ss.map V.int)[i]? = some (.int ss[i]) := by rw [List.getElem?_map, gi]; rfl
      rw [Int.zero_add]
      walk_at "ss"
      refine iteD (fun e => ?_) (fun e => ?_)
      · walk_at "ss"
        refine m_ty (lst_of e3) ?_
        walk_at "ss"
        refine o_ixL hB3 (atI_nat gg) ?_
        refine o_modG z0 fun r r0 r1 => ?_
        walk_at "ss"
        refine m_app e3 ln fun H4 c4 e4 => ?_
        walk_at "ss"
        refine o_ixL ((s1.trans (c4.same s3 nd)).seq hB) (atI_nat gg) ?_
        walk_at "ss"
        exact ⟨_, _, _, _, ds ++ [r], rfl, c4.same s3 nd, by rw [e4, List.map_append]; rfl, snoc r r0 r1⟩
      · walk_at "ss"
        refine ix_pr ep (Int.emod_nonneg _ (by omega)) (Int.emod_lt_of_pos _ (by omega)) fun p p0 p1 => ?_
        refine o_modG p0 fun f f0 f1 => ?_
        walk_at "ss"
        refine ix_pr ep (Int.emod_nonneg _ (by omega)) (Int.emod_lt_of_pos _ (by omega)) fun p p2 p3 => ?_
        refine o_modG p2 fun m m0 m1 => ?_
        walk_at "ss"
        refine ix_pr ep (Int.emod_nonneg _ (by omega)) (Int.emod_lt_of_pos _ (by omega)) fun p p2 p3 => ?_
        refine o_modG p2 fun m m0 m1 => ?_
        walk_at "ss"
        refine m_ty (lst_of e3) ?_
        walk_at "ss"
        refine o_ixL hB3 (atI_nat gg) ?_
        refine o_modG z0 fun r r0 r1 => ?_
        walk_at "ss"
        refine m_app e3 ln fun H4 c4 e4 => ?_
        exact ⟨_, _, _, _, ds ++ [r], rfl, c4.same s3 nd, by rw [e4, List.map_append]; rfl, snoc r r0 r1⟩
    · obtain ⟨x, y, z, rest, ds, rfl, s3, e3, hd⟩ := p
      have hd : Dr ds (ss.take ss.length) := hd
      rw [List.take_length] at hd
      walk_at "ss"
      exact q d H3 ds (s1.trans s3) (s1.free nd) e3 hd
end
end K15
namespace K15
open PySem PySem.Spec PyProof.Rows L2 Wy WN WQ WS

-- WIDE
section
variable {P : Program} {w : World} {K : PySem.W.Frag} {mg : Str → Option Value} {base : Heap}
theorem k_law_is_integer (T : Tx K mg) : C8.Cal P w K mg base 1 "_law_is_integer" spIsInt [] := by
  refine cal_of (N := n_law_is_integer) T.d_law_is_integer sc_law_is_integer (fun _ _ F => F.bindsN fun _ _ _ _ _ _ us hl => match us, hl with | [_], _ => rfl) (fun vs H Q E h => ?_) (fun f cdv A outer s H vs Q E hr h => ?_)
  · obtain ⟨i, rfl, _⟩ := h
    rfl
  · obtain ⟨i, rfl, q⟩ := h
    refine ⟨_, (pss_one (ps_ret (pe_and (pe_callB (call_isi2 : CallR _ _ (rIsi2 K)) (by rfl) T.z_isinstance (by decide +kernel) (pa_cons (pv 0) (pa_cons (pe_bltn (v := .ty "int") (by rfl) T.z_int (by decide +kernel) rfl) pa_nil))) (pe_one (pe_not (pe_callB (call_isi2 : CallR _ _ (rIsi2 K)) (by rfl) T.z_isinstance (by decide +kernel) (pa_cons (pv 0) (pa_cons (pe_bltn (v := .ty "bool") (by rfl) T.z_bool (by decide +kernel) rfl) pa_nil)))))))), ?_⟩
    walk_at "xx"
    exact q
end
end K15
namespace K15
open PySem PySem.Spec PyProof.Rows L2 Wy WN WQ WS WC

-- WIDE
section
variable {P : Program} {w : World} {K : PySem.W.Frag} {mg : Str → Option Value} {base : Heap}
theorem k_chain_sum (T : Tx K mg) : C8.Cal P w K mg base 1 "chain_sum" (spChain K) [] := by
  refine cal_of (N := n_chain_sum) T.d_chain_sum sc_chain_sum (fun _ _ F => F.bindsN fun _ _ _ _ _ _ us hl => match us, hl with | [_, _], _ => rfl) (fun vs H Q E h => ?_) (fun f cdv A outer s H vs Q E hr h => ?_)
  · obtain ⟨a, b, us, ds, ns, rfl, _⟩ := h
    rfl
  · obtain ⟨a, b, us, ds, ns, rfl, hA, tA, hB, ld, ln, qn, qs⟩ := h
    refine ⟨_, (pss_cons (ps_if (PW.pt (pw_or (pt_not (pt_tr (pv 1) : PT _ _ (tTr K _))) (pw_or1 (pt_not (pt_tr (pe_callC cc_all (by rfl) T.z_all (by decide +kernel) (pa_cons (pe_lc (own := [("number", 2)]) (g := gName 2) (tt := tYes) (by rfl) sc_chain_sum.nd (pi_seq (pv 1) : PI _ _ _ (iSeq K _)) (blkOk_by (own := [("number", 2)]) (N := n_chain_sum) (sc := defScope s_chain_sum) (by decide +kernel)) (fun _ _ _ _ _ => pg_name (i := 2) sc_chain_sum.nd rfl (Or.inl rfl)) (fun _ _ _ _ _ => pts_nil) (fun _ _ _ _ _ => (pe_chain op_le op_lt pe_int (pv 2) (pe_callB (call_len2 : CallR _ _ (rLn K)) (by rfl) T.z_len (by decide +kernel) (pa_cons (pv 0) pa_nil))))) pa_nil)) : PT _ _ (tTr K _)))))) (pss_one (ps_ret pe_non)) pss_nil) (pss_cons (ps_asg (pe_ix (ix_seq : IxR _ (rIx K)) (pv 0) (pe_ix (ix_seq : IxR _ (rIx K)) (pv 1) pe_int (fun _ _ => rfl)) (fun _ _ => rfl)) (pg_tup (by rfl) (pgs_cons (pg_name (i := 3) sc_chain_sum.nd rfl (Or.inl rfl)) (pgs_cons (pg_name (i := 4) sc_chain_sum.nd rfl (Or.inl rfl)) (pgs_cons (pg_name (i := 5) sc_chain_sum.nd rfl (Or.inl rfl)) pgs_nil))) : PG _ _ (gTup K _ _))) (pss_cons (ps_for PassesOwn.never rfl (pi_seq (pe_slice (WC.sl_3 : SlR _ (WC.rSl3 K)) (pv 1) (po_some pe_int) po_none) : PI _ _ _ (iSeq K _)) (pg_name (i := 2) sc_chain_sum.nd rfl (Or.inl rfl)) (pss_cons (ps_asg (pe_ix (ix_seq : IxR _ (rIx K)) (pv 0) (pv 2) (fun _ _ => rfl)) (pg_tup (by rfl) (pgs_cons (pg_name (i := 6) sc_chain_sum.nd rfl (Or.inl rfl)) (pgs_cons (pg_name (i := 7) sc_chain_sum.nd rfl (Or.inl rfl)) (pgs_cons (pg_name (i := 8) sc_chain_sum.nd rfl (Or.inl rfl)) pgs_nil))) : PG _ _ (gTup K _ _))) (pss_cons (ps_if (pt_cmpR (op_ne2 hr.units : OpR _ _ (rNe2 K)) (pv 6) (pv 4) (nomark _)) (pss_one (ps_ret pe_non)) pss_nil) (pss_cons (ps_asg (pv 7) (pg_name (i := 4) sc_chain_sum.nd rfl (Or.inl rfl))) (pss_one (ps_asg (pe_op op_add3 (pv 5) (pv 8)) (pg_name (i := 5) sc_chain_sum.nd rfl (Or.inl rfl)))))))) (pss_one (ps_ret (pe_tup (pa_cons (pv 3) (pa_cons (pv 4) (pa_cons (pv 5) pa_nil))))))))), ?_⟩
    have lu := tA.length
    rw [List.length_map] at lu
    walk_at "xx"
    refine k_trQ hB ?_
    walk_at "xx"
    cases ns with
    | nil =>
      refine iteTT rfl ?_
      walk_at "xx"
      exact qn rfl _ (Same.refl _)
    | cons n r =>
    refine iteFF rfl ?_
    walk_at "xx"
    refine w_sq hB rfl fun J hJ => ?_
    refine c_acc hJ (fun i acc _ => acc = ((n :: r).take i).map fun n => V.bl (inB ds.length n)) (fun _ _ _ _ _ h => h) (fun i acc H hi h => small1000' (by rw [h, List.length_map, List.length_take]; omega)) rfl (fun i x H1 acc N M hx s1 o hN hM => ?_) (fun D H1 ys nD s1 e1 o => ?_)
    · rw [List.getElem?_map] at hx
      obtain ⟨m, gm, rfl⟩ := Option.map_eq_some_iff.mp hx
      walk_at "xx"
      refine ⟨rfl, ?_⟩
      walk_at "xx"
      have tk : ((n :: r).take (i + 1)).map (fun n => V.bl (inB ds.length n)) = ((n :: r).take i).map (fun n => V.bl (inB ds.length n)) ++ [V.bl (inB ds.length m)] := by
        rw [List.take_succ, gm, List.map_append]
        rfl
      have vis : inB ds.length m = (decide (0 ≤ m) && decide (m < (us.length : Int))) := by
        unfold inB
        rw [lu]
      refine iteD (fun e => ?_) (fun e => ?_)
      · walk_at "xx"
        refine b_lenQ (hA.same s1) ?_
        walk_at "xx"
        refine hN _ _ (Same.refl _) ?_
        rw [tk, o, vis, decide_eq_true e]
        rfl
      · walk_at "xx"
        refine hN _ _ (Same.refl _) ?_
        rw [tk, o, vis, decide_eq_false e]
        rfl
    rw [List.length_map, List.take_length] at o
    walk_at "xx"
    refine b_allM (ds := n :: r) (f := inB ds.length) (by rw [← o]; exact lst_of e1) ?_
    walk_at "xx"
    cases hall : (n :: r).all (inB ds.length) with
    | false =>
      walk_at "xx"
      refine qn ?_ _ s1
      rw [csum_cons, hall]
      rfl
    | true =>
    have ec : csum ds (n :: r) = runC (dsAt ds n) (r.map (dsAt ds)) := by
      rw [csum_cons, if_pos hall]
    have hin : ∀ x ∈ n :: r, 0 ≤ x ∧ x < us.length := fun x hx => by
      have := List.all_eq_true.mp hall x hx
      unfold inB at this
      rw [Bool.and_eq_true, decide_eq_true_eq, decide_eq_true_eq, ← lu] at this
      exact this
    have get : ∀ {H2 : Hp} {x : Int}, TpAll H2 us (ds.map dfD) → x ∈ n :: r → ∃ p, us[x.toNat]? = some (.ref p) ∧ H2 p = some (.tup [.int (dsAt ds x).1, .int (dsAt ds x).2.1, .int (dsAt ds x).2.2]) := fun {H2 x} t hx => by
      obtain ⟨h1, h2⟩ := hin x hx
      have gd : ds[x.toNat]? = some (dsAt ds x) := by
        unfold dsAt
        rw [List.getD_eq_getElem?_getD, List.getElem?_eq_getElem (by omega)]
        rfl
      obtain ⟨u, gu, tu⟩ := tpAt t gd
      obtain ⟨p, _, _, _, rfl, ep, t1, t2, t3⟩ := WQ.tp3 tu
      cases t1
      cases t2
      cases t3
      exact ⟨p, gu, ep⟩
    clear hall o e1 hJ
    walk_at "xx"
    refine ix_intQ (ns := n :: r) (hB.same s1) (by omega) (by rw [List.length_cons]; omega) fun x0 g0 => ?_
    obtain rfl : n = x0 := by simpa using g0
    obtain ⟨p0, gp0, ep0⟩ := get (tA.tk s1.tk) List.mem_cons_self
    obtain ⟨i1, i2⟩ := hin _ List.mem_cons_self
    refine o_ixQ (hA.same s1) (atI_of (j := n.toNat) (by omega) gp0) ?_
    walk_at "xx"
    refine w_cut1 (hB.same s1) rfl fun J _ H2 s2 hJ => ?_
    refine f_sq (xs := r.map V.int) hJ (fun i σ H' => ∃ z4 z5 z6 z7, ∃ l t : Int, σ = [some (.ref a), some (.ref b), z4, some (.int (dsAt ds n).1), some (.int l), some (.int t), z5, z6, z7] ∧ Same H2 H' ∧ runC ((dsAt ds n).1, l, t) ((r.drop i).map (dsAt ds)) = csum ds (n :: r))
      ⟨_, _, _, _, _, _, rfl, Same.refl _, ec.symm⟩ (fun i σ H' p => p.choose_spec.choose_spec.choose_spec.choose_spec.choose_spec.choose_spec.2.1) (fun i x σ H3 hx p => ?_) (fun σ H3 p => ?_)
    · obtain ⟨z4, z5, z6, z7, l, t, rfl, s3, er⟩ := p
      rw [List.getElem?_map] at hx
      obtain ⟨m, gm, rfl⟩ := Option.map_eq_some_iff.mp hx
      have hm : m ∈ n :: r := List.mem_cons_of_mem _ (List.mem_of_getElem? gm)
      have S3 := s1.trans (s2.trans s3)
      obtain ⟨p1, gp1, ep1⟩ := get (tA.tk S3.tk) hm
      obtain ⟨j1, j2⟩ := hin _ hm
      have hi := (List.getElem?_eq_some_iff.mp gm).1
      rw [List.drop_eq_getElem_cons hi, (List.getElem?_eq_some_iff.mp gm).2, List.map_cons] at er
      unfold runC at er
      simp only at er
      walk_at "xx"
      refine o_ixQ (hA.same S3) (atI_of (j := m.toNat) (by omega) gp1) ?_
      walk_at "xx"
      refine iteNI (fun e => ?_) (fun e => ?_)
      · walk_at "xx"
        rw [if_neg e] at er
        exact qn er.symm _ S3
      · rw [if_pos e] at er
        walk_at "xx"
        exact ⟨_, _, _, _, _, _, rfl, s3, er⟩
    · obtain ⟨z4, z5, z6, z7, l, t, rfl, s3, er⟩ := p
      rw [List.length_map, List.drop_length] at er
      walk_at "xx"
      exact qs _ er.symm _ _ (by walk_at "sa") (by walk_at "fr") (by walk_at "hp")
theorem k_is_ring (T : Tx K mg) : C8.Cal P w K mg base 2 "is_ring" (spRing K) [] := by
  refine cal_of (N := n_is_ring) T.d_is_ring sc_is_ring (fun _ _ F => F.bindsN fun _ _ _ _ _ _ us hl => match us, hl with | [_, _], _ => rfl) (fun vs H Q E h => ?_) (fun f cdv A outer s H vs Q E hr h => ?_)
  · obtain ⟨a, b, us, ds, ns, rfl, _⟩ := h
    rfl
  · obtain ⟨a, b, us, ds, ns, rfl, hA, tA, hB, ld, ln, q⟩ := h
    refine ⟨_, (pss_cons (ps_asg (C8.pe_c (k_chain_sum T) hr (by first | decide | omega) (by rfl) (pa_cons (pv 0) (pa_cons (pv 1) pa_nil))) (pg_name (i := 2) sc_is_ring.nd rfl (Or.inl rfl))) (pss_one (ps_ret (pe_and (pe_cmpR op_ntN2 (pv 2) pe_non (nomark _)) (pe_and (pe_cmpR (op_eq2 hr.units : OpR _ _ (rEq2 K)) (pe_ix (ix_seq : IxR _ (rIx K)) (pv 2) pe_int (fun _ _ => rfl)) (pe_ix (ix_seq : IxR _ (rIx K)) (pv 2) pe_int (fun _ _ => rfl)) (nomark _)) (pe_one (pe_cmpR op_lt (pe_ix (ix_seq : IxR _ (rIx K)) (pv 2) pe_int (fun _ _ => rfl)) pe_int (nomark _)))))))), ?_⟩
    walk_at "xx"
    refine ⟨a, b, us, ds, ns, rfl, hA, tA, hB, ld, ln, fun e H1 s1 => ?_, fun t e p H1 s1 np ep => ?_⟩
    · rw [ringB_none e] at q
      walk_at "xx"
      exact q _ s1
    · rw [ringB_some e] at q
      walk_at "xx"
      refine iteI (fun e2 => ?_) (fun e2 => ?_)
      · rw [decide_eq_true e2] at q
        walk_at "xx"
        exact q _ s1
      · rw [decide_eq_false e2] at q
        walk_at "xx"
        exact q _ s1
theorem k_floor_value (T : Tx K mg) : C8.Cal P w K mg base 2 "floor_value" (spFloor K) [] := by
  refine cal_of (N := n_floor_value) T.d_floor_value sc_floor_value (fun _ _ F => F.bindsN fun _ _ _ _ _ _ us hl => match us, hl with | [_, _, _], _ => rfl) (fun vs H Q E h => ?_) (fun f cdv A outer s H vs Q E hr h => ?_)
  · obtain ⟨a, b, us, ds, ns, k, rfl, _⟩ := h
    rfl
  · obtain ⟨a, b, us, ds, ns, k, rfl, hA, tA, hB, ld, ln, q⟩ := h
    refine ⟨_, (pss_cons (ps_asg (C8.pe_c (k_chain_sum T) hr (by first | decide | omega) (by rfl) (pa_cons (pv 0) (pa_cons (pv 1) pa_nil))) (pg_name (i := 3) sc_floor_value.nd rfl (Or.inl rfl))) (pss_cons (ps_if (PW.pt (pw_or (pt_cmpR op_isN2 (pv 3) pe_non (nomark _)) (pw_or (pt_cmpR (op_ne2 hr.units : OpR _ _ (rNe2 K)) (pe_ix (ix_seq : IxR _ (rIx K)) (pv 3) pe_int (fun _ _ => rfl)) pe_int (nomark _)) (pw_or1 (pt_cmpR (op_ne2 hr.units : OpR _ _ (rNe2 K)) (pe_ix (ix_seq : IxR _ (rIx K)) (pv 3) pe_int (fun _ _ => rfl)) (pv 2) (nomark _)))))) (pss_one (ps_ret pe_non)) pss_nil) (pss_one (ps_ret (pe_un un_neg (pe_ix (ix_seq : IxR _ (rIx K)) (pv 3) pe_int (fun _ _ => rfl))))))), ?_⟩
    walk_at "xx"
    refine ⟨a, b, us, ds, ns, rfl, hA, tA, hB, ld, ln, fun e H1 s1 => ?_, fun t e p H1 s1 np ep => ?_⟩
    · rw [floorV_none e] at q
      walk_at "xx"
      exact q _ s1
    · rw [floorV_some e] at q
      walk_at "xx"
      refine iteNI (fun e2 => ?_) (fun e2 => ?_)
      · rw [if_neg (fun h => e2 h.1)] at q
        walk_at "xx"
        exact q _ s1
      · walk_at "xx"
        refine iteNI (fun e3 => ?_) (fun e3 => ?_)
        · rw [if_neg (fun h => e3 h.2)] at q
          walk_at "xx"
          exact q _ s1
        · rw [if_pos ⟨e2, e3⟩] at q
          walk_at "xx"
          exact q _ s1
theorem k_keeps (T : Tx K mg) : C8.Cal P w K mg base 1 "keeps" (spKeeps K) [] := by
  refine cal_of (N := n_keeps) T.d_keeps sc_keeps (fun _ _ F => F.bindsN fun _ _ _ _ _ _ us hl => match us, hl with | [_, _], _ => rfl) (fun vs H Q E h => ?_) (fun f cdv A outer s H vs Q E hr h => ?_)
  · obtain ⟨a, b, us, ds, vals, rfl, _⟩ := h
    rfl
  · obtain ⟨a, b, us, ds, vals, rfl, hA, tA, hB, hin, hl, hv, q⟩ := h
    refine ⟨_, (pss_cons (ps_asg (pe_lst (pa_cons pe_int (pa_star (pv 1) pa_nil : PA _ _ (tStar K _ _)))) (pg_name (i := 2) sc_keeps.nd rfl (Or.inr rfl))) (pss_one (ps_ret (pe_callC cc_all (by rfl) T.z_all (by decide +kernel) (pa_cons (pe_lc (own := [("u", 3), ("v", 4), ("c", 5)]) (g := (gTup K 3 (gCons (gName 3) (gCons (gName 4) (gCons (gName 5) (gNil)))))) (tt := tYes) (by rfl) sc_keeps.nd (pi_seq (pv 0) : PI _ _ _ (iSeq K _)) (blkOk_by (own := [("u", 3), ("v", 4), ("c", 5)]) (N := n_keeps) (sc := defScope s_keeps) (by decide +kernel)) (fun _ _ _ _ _ => pg_tup (by rfl) (pgs_cons (pg_name (i := 3) sc_keeps.nd rfl (Or.inl rfl)) (pgs_cons (pg_name (i := 4) sc_keeps.nd rfl (Or.inl rfl)) (pgs_cons (pg_name (i := 5) sc_keeps.nd rfl (Or.inl rfl)) pgs_nil)))) (fun _ _ _ _ _ => pts_nil) (fun _ _ _ _ _ => (pe_cmpR op_le (pe_op op_sub (pe_ix (ix_seq : IxR _ (rIx K)) (pv 2) (pv 3) (fun _ _ => rfl)) (pe_ix (ix_seq : IxR _ (rIx K)) (pv 2) (pv 4) (fun _ _ => rfl))) (pv 5) (nomark _)))) pa_nil))))), ?_⟩
    have lu := tA.length
    rw [List.length_map] at lu
    walk_at "xx"
    refine a_star ?_
    walk_at "xx"
    refine k_st hB ?_
    walk_at "xx"
    refine n_obj (by simp only [List.length_cons, List.length_append, List.length_map, List.length_nil]; exact lz (by omega)) fun lp H2 np s0 e2 => ?_
    have e2 : H2 lp = some (.lst ((0 :: vals).map V.int)) := by
      rw [e2, List.map_cons, List.append_nil]
    walk_at "xx"
    refine w_sq (hA.same s0) rfl fun J hJ => ?_
    refine c_acc hJ (One fun j y _ => ∃ d, ds[j]? = some d ∧ y = .bl (kept vals d)) (fun i acc H1 H2 _ h => h) (fun i acc H1 hi h => small1000' (by rw [h.1]; omega)) One.zero (fun j x H3 acc N M hx s3 o hN hM => ?_) (fun D H3 ys nD s3 e3 o => ?_)
    · obtain ⟨d, hd, td⟩ := tpGet (tA.tk (s0.trans s3).tk) hx
      obtain ⟨a1, _, _, _, rfl, ea, t1, t2, t3⟩ := WQ.tp3 td
      cases t1
      cases t2
      cases t3
      obtain ⟨r1, r2, r3, r4⟩ := hin d (List.mem_of_getElem? hd)
      walk_at "xx"
      refine ⟨rfl, ?_⟩
      walk_at "xx"
      refine ix_lv (by walk_at "sq") r1 (by omega) ?_
      walk_at "xx"
      refine ix_lv (by walk_at "sq") r3 (by omega) ?_
      walk_at "xx"
      exact hN _ _ (Same.refl _) (o.snoc (fun _ _ h => h) ⟨d, hd, rfl⟩)
    · have e := One.eq (xs := ds) (F := fun d => V.bl (kept vals d)) (lu ▸ o) (fun j y hj p => by
        obtain ⟨d, hd, rfl⟩ := p
        rw [hd]
        rfl)
      walk_at "xx"
      rw [e] at e3
      refine b_allM (lst_of e3) ?_
      exact q _ (by walk_at "sa")
theorem k_law_tells (T : Tx K mg) : C8.Cal P w K mg base 1 "_law_tells" spTells [] := by
  refine cal_of (N := n_law_tells) T.d_law_tells sc_law_tells (fun _ _ F => F.bindsN fun _ _ _ _ _ _ us hl => match us, hl with | [_, _], _ => rfl) (fun vs H Q E h => ?_) (fun f cdv A outer s H vs Q E hr h => ?_)
  · obtain ⟨x, y, rfl, _⟩ := h
    rfl
  · obtain ⟨x, y, rfl, q⟩ := h
    refine ⟨_, (pss_one (ps_ret (pe_and (pe_callB (call_isi2 : CallR _ _ (rIsi2 K)) (by rfl) T.z_isinstance (by decide +kernel) (pa_cons (pv 0) (pa_cons (pe_bltn (v := .ty "bool") (by rfl) T.z_bool (by decide +kernel) rfl) pa_nil))) (pe_one (pe_cmpR (op_eq2 hr.units : OpR _ _ (rEq2 K)) (pv 0) (pv 1) (nomark _)))))), ?_⟩
    walk_at "xx"
    rw [dB]
    exact q
end
end K15
namespace K15
open PySem PySem.Spec PyProof.Rows L2 Wy WN WQ WS WC

-- WIDE
section
variable {P : Program} {w : World} {K : PySem.W.Frag} {mg : Str → Option Value} {base : Heap}
theorem k_law_weight (T : Tx K mg) : C8.Cal P w K mg base 1 "_law_weight" spWt [] := by
  refine cal_of (N := n_law_weight) T.d_law_weight sc_law_weight (fun _ _ F => F.bindsN fun _ _ _ _ _ _ us hl => match us, hl with | [_], _ => rfl) (fun vs H Q E h => ?_) (fun f cdv A outer s H vs Q E hr h => ?_)
  · obtain ⟨d, rfl, _⟩ := h
    rfl
  · obtain ⟨d, rfl, q⟩ := h
    refine ⟨_, (pss_cons (ps_asg (pe_op op_mod (pe_callTy call_int2 (by rfl) T.z_int (by decide +kernel) (pa_cons (pv 0) pa_nil)) pe_int) (pg_name (i := 1) sc_law_weight.nd rfl (Or.inl rfl))) (pss_cons (ps_asg (pe_op op_fdivW (pv 0) pe_int) (pg_name (i := 2) sc_law_weight.nd rfl (Or.inl rfl))) (pss_cons (ps_if (pt_cmpR (op_eq2 hr.units : OpR _ _ (rEq2 K)) (pv 1) pe_int (nomark _)) (pss_one (ps_ret (pe_op op_mul2 (pe_op op_sub pe_int (pe_op op_mul2 pe_int (pe_op op_mod (pe_callTy call_int2 (by rfl) T.z_int (by decide +kernel) (pa_cons (pv 2) pa_nil)) pe_int))) (pe_op op_add3 (pe_op op_pow pe_int pe_int) (pe_op op_mod (pe_callTy call_int2 (by rfl) T.z_int (by decide +kernel) (pa_cons (pv 2) pa_nil)) (pe_op op_pow pe_int pe_int)))))) pss_nil) (pss_cons (ps_if (pt_cmpR (op_eq2 hr.units : OpR _ _ (rEq2 K)) (pv 1) pe_int (nomark _)) (pss_one (ps_ret (pe_op op_mul2 (pe_op op_sub pe_int (pe_op op_mul2 pe_int (pe_op op_mod (pe_callTy call_int2 (by rfl) T.z_int (by decide +kernel) (pa_cons (pv 2) pa_nil)) pe_int))) (pe_op op_mod (pe_callTy call_int2 (by rfl) T.z_int (by decide +kernel) (pa_cons (pe_op op_fdivW (pv 2) pe_int) pa_nil)) (pe_op op_pow pe_int pe_int))))) pss_nil) (pss_one (ps_ret (pe_op op_sub (pe_op op_mod (pe_callTy call_int2 (by rfl) T.z_int (by decide +kernel) (pa_cons (pv 2) pa_nil)) pe_int) pe_int))))))), ?_⟩
    walk_at "xx"
    refine iteI (fun e => ?_) (fun e => ?_)
    · walk_at "xx"
      refine o_mod (by decide +kernel) ?_
      walk_at "xx"
      exact q _
    · walk_at "xx"
      refine iteI (fun e => ?_) (fun e => ?_)
      · walk_at "xx"
        refine o_mod (by decide +kernel) ?_
        walk_at "xx"
        exact q _
      · walk_at "xx"
        exact q _
theorem k_law_differences (T : Tx K mg) : C8.Cal P w K mg base 3 "_law_differences" (spDiffs K) [] := by
  refine cal_of (N := n_law_differences) T.d_law_differences sc_law_differences (fun _ _ F => F.bindsN fun _ _ _ _ _ _ us hl => match us, hl with | [_, _, _, _], _ => rfl) (fun vs H Q E h => ?_) (fun f cdv A outer s H vs Q E hr h => ?_)
  · obtain ⟨a, zs, pl, n, m, rfl, _⟩ := h
    rfl
  · obtain ⟨a, zs, pl, n, m, rfl, hA, hn, hm, q⟩ := h
    refine ⟨_, (pss_cons (ps_asg (pe_lst pa_nil) (pg_name (i := 4) sc_law_differences.nd rfl (Or.inl rfl))) (pss_cons (ps_asg (C8.pe_c (k_law_draws T) hr (by first | decide | omega) (by rfl) (pa_cons (pv 0) (pa_cons (pv 1) (pa_cons (pe_lc (own := [("k", 5)]) (g := gName 5) (tt := tYes) (by rfl) sc_law_differences.nd (pi_range1 (by rfl) T.z_range (pa_cons (pe_op op_mul2 pe_int (pv 2)) pa_nil)) (blkOk_by (own := [("k", 5)]) (N := n_law_differences) (sc := defScope s_law_differences) (by decide +kernel)) (fun _ _ _ _ _ => pg_name (i := 5) sc_law_differences.nd rfl (Or.inl rfl)) (fun _ _ _ _ _ => pts_nil) (fun _ _ _ _ _ => (pe_ifExp (pt_cmpR (op_eq2 hr.units : OpR _ _ (rEq2 K)) (pe_op op_mod (pv 5) pe_int) pe_int (nomark _)) (pe_op op_pow pe_int pe_int) (pe_op op_add3 (pv 3) pe_int)))) pa_nil)))) (pg_name (i := 6) sc_law_differences.nd rfl (Or.inl rfl))) (pss_cons (ps_for PassesOwn.never rfl (pi_range1 (by rfl) T.z_range (pa_cons (pv 2) pa_nil)) (pg_name (i := 5) sc_law_differences.nd rfl (Or.inl rfl)) (pss_one (ps_expr (pe_bm PySem.F.plainAttrs_list PySem.F.slot_list_append PySem.F.type_list_append mt_append (pv 4) (pa_cons (pe_tup (pa_cons (pe_ix (ix_seq : IxR _ (rIx K)) (pv 6) (pe_op op_mul2 pe_int (pv 5)) (fun _ _ => rfl)) (pa_cons (pe_ix (ix_seq : IxR _ (rIx K)) (pv 6) (pe_op op_add3 (pe_op op_mul2 pe_int (pv 5)) pe_int) (fun _ _ => rfl)) (pa_cons (C8.pe_c (k_law_weight T) hr (by first | decide | omega) (by rfl) (pa_cons (pe_ix (ix_seq : IxR _ (rIx K)) (pv 6) (pe_op op_add3 (pe_op op_mul2 pe_int (pv 5)) pe_int) (fun _ _ => rfl)) pa_nil)) pa_nil)))) pa_nil) : PE _ _ (tBM K _ _ _ _))))) (pss_one (ps_ret (pv 4)))))), ?_⟩
    walk_at "xx"
    rename_i dp H1 n1 s1 e1
    refine c_accR (One fun j y _ => y = .int (if j % 3 = 2 then 10 ^ 42 else (m : Int) + 1)) (fun _ _ _ _ _ h => h) (fun i acc H hi h => small1000 (by rw [h.1]; omega)) One.zero (fun j H2 acc N M hj s2 o hN hM => ?_) (fun D H2 ys nD s2 e2 o => ?_)
    · rw [Int.zero_add]
      walk_at "xx"
      refine ⟨rfl, ?_⟩
      walk_at "xx"
      refine iteI (fun e => ?_) (fun e => ?_)
      · walk_at "xx"
        exact hN _ _ (Same.refl _) (o.snoc (fun _ _ h => h) (by rw [if_pos (by omega)]; rfl))
      · walk_at "xx"
        exact hN _ _ (Same.refl _) (o.snoc (fun _ _ h => h) (by rw [if_neg (by omega)]))
    have ey := o.eqR fun j y _ h => h
    have nn : (3 * (n : Int)).toNat = 3 * n := by omega
    rw [nn] at ey
    have ey : ys = ((List.range (3 * n)).map fun j => if j % 3 = 2 then (10 : Int) ^ 42 else (m : Int) + 1).map V.int := by
      rw [ey, List.map_map]
      rfl
    rw [ey] at e2
    clear o ey
    walk_at "xx"
    refine ⟨a, D, zs, _, pl, rfl, (s1.trans s2).seq hA, lst_of e2, ⟨by rw [List.length_map, List.length_range]; omega, fun s hs => ?_⟩, fun p H3 dr s3 n3 e3 hd => ?_⟩
    · obtain ⟨j, _, rfl⟩ := List.mem_map.mp hs
      split <;> omega
    have ld := hd.len
    rw [List.length_map, List.length_range] at ld
    have S3 : Same H1 H3 := s2.trans s3
    walk_at "xx"
    refine f_range (fun i σ H' => ∃ z us, ∃ ds : List Df, σ = [some (.ref a), some (.int pl), some (.int n), some (.int m), some (.ref dp), z, some (.ref p)] ∧ Same H H' ∧ H' p = some (.lst (dr.map V.int)) ∧ H' dp = some (.lst us) ∧ TpAll H' us (ds.map dfD) ∧ ds.length = i ∧ ∀ d ∈ ds, InR m d)
      ⟨_, _, [], rfl, s1.trans S3, e3, S3 _ _ e1, .nil, rfl, fun _ h => by cases h⟩ (fun i σ H4 hi p => ?_) (fun σ H4 p => ?_)
    · obtain ⟨z, us, ds, rfl, s4, e4, f4, t4, l4, r4⟩ := p
      have hi : i < n := hi
      have lu := t4.length
      rw [List.length_map] at lu
      have sz : ∀ j, j < 3 * n → ((List.range (3 * n)).map fun j => if j % 3 = 2 then (10 : Int) ^ 42 else (m : Int) + 1)[j]? = some (if j % 3 = 2 then (10 : Int) ^ 42 else (m : Int) + 1) := fun j hj => by rw [List.getElem?_map, List.getElem?_range hj]; rfl
      rw [Int.zero_add]
      walk_at "xx"
      refine m_ty (lst_of f4) ?_
      walk_at "xx"
      refine ix_int (lst_of e4) (by omega) (by omega) fun x gx => ?_
      walk_at "xx"
      refine ix_int (lst_of e4) (by omega) (by omega) fun y gy => ?_
      walk_at "xx"
      refine ix_int (lst_of e4) (by omega) (by omega) fun c gc => ?_
      walk_at "xx"
      refine ⟨c, rfl, fun c => ?_⟩
      obtain ⟨sx, g1, x0, x1⟩ := hd.get gx
      obtain ⟨sy, g2, y0, y1⟩ := hd.get gy
      rw [show (3 * (i : Int)).toNat = 3 * i by omega, sz _ (by omega), if_neg (by omega)] at g1
      rw [show (3 * (i : Int) + 1).toNat = 3 * i + 1 by omega, sz _ (by omega), if_neg (by omega)] at g2
      cases g1
      cases g2
      walk_at "xx"
      rename_i tp H5 n5 s5 e5
      refine m_app (s5 _ _ f4) (small1000 (by omega)) fun H6 c6 e6 => ?_
      have k6 : TK H4 H6 := s5.tk.trans (c6.tk (s5 _ _ f4))
      have np : dp ≠ p := fun e => by
        subst e
        rw [S3 _ _ e1] at e3
        have := (Option.some.inj e3)
        injection this with this
        cases dr with
        | nil => simp at ld; omega
        | cons _ _ => cases this
      walk_at "xx"
      refine ⟨_, us ++ [.ref tp], ds ++ [(x, y, c)], rfl, c6.same (s4.trans s5) n1, c6.at (s5 _ _ e4) (Ne.symm np), e6, ?_, by rw [List.length_append, l4]; rfl, fun d hd => ?_⟩
      · rw [List.map_append]
        exact tpSnoc (t4.tk k6) (Tp.tk (c6.tk (s5 _ _ f4)) (.tup e5 (by walk_at "tp")))
      · rcases List.mem_append.mp hd with hd | hd
        · exact r4 d hd
        · rw [List.mem_singleton.mp hd]
          exact ⟨x0, by show x ≤ _; omega, y0, by show y ≤ _; omega⟩
    · obtain ⟨z, us, ds, rfl, s4, e4, f4, t4, l4, r4⟩ := p
      walk_at "xx"
      exact q _ _ _ ds s4 n1 f4 t4 l4 r4
end
end K15
namespace K15
open PySem PySem.Spec PyProof.Rows L2 Wy WN WQ WS WC

-- WIDE
theorem erase_map {α β : Type} (f : α → β) : ∀ (xs : List α) (i : Nat), (xs.map f).eraseIdx i = (xs.eraseIdx i).map f
  | [], _ => rfl
  | _ :: _, 0 => rfl
  | x :: xs, i + 1 => by
    show f x :: (xs.map f).eraseIdx i = f x :: (xs.eraseIdx i).map f
    rw [erase_map f xs i]
theorem first_at {α : Type} [DecidableEq α] {k : α} : ∀ {os : List α}, k ∈ os → ∃ j, os[j]? = some k ∧ ∀ (m : Nat) (z : α), m < j → os[m]? = some z → z ≠ k
  | [], h => by cases h
  | o :: os, h => by
    by_cases e : o = k
    · exact ⟨0, by rw [e]; rfl, fun m z hm => absurd hm (Nat.not_lt_zero _)⟩
    · obtain ⟨j, h1, h2⟩ := first_at ((List.mem_cons.mp h).resolve_left (fun q => e q.symm))
      refine ⟨j + 1, h1, fun m z hm hz => ?_⟩
      cases m with
      | zero =>
        cases hz
        exact e
      | succ m => exact h2 m z (by omega) hz
def bump (vals : List Int) (at' s : Int) : List Int := if 0 < at' then vals.set (at' - 1).toNat (vals.getD (at' - 1).toNat 0 + s) else vals
theorem bump_len (vals : List Int) (a s : Int) : (bump vals a s).length = vals.length := by
  unfold bump
  split <;> simp
theorem lv_bump {vals : List Int} {a s n : Int} (h0 : 0 ≤ n) (h1 : n ≤ vals.length) (a1 : a ≤ vals.length) : lv (bump vals a s) n = lv vals n + if n = a ∧ 0 < a then s else 0 := by
  unfold bump lv
  by_cases h : 0 < a
  · rw [if_pos h]
    obtain ⟨m, rfl⟩ : ∃ m : Nat, n = m := ⟨n.toNat, by omega⟩
    obtain ⟨b, rfl⟩ : ∃ b : Nat, a = b + 1 := ⟨a.toNat - 1, by omega⟩
    rw [show ((b : Int) + 1 - 1).toNat = b by omega, Int.toNat_natCast]
    cases m with
    | zero =>
      rw [if_neg (by omega)]
      simp
    | succ m =>
      simp only [List.getD_eq_getElem?_getD, List.getElem?_cons_succ]
      by_cases e : m = b
      · subst e
        rw [List.getElem?_set_self (by omega), if_pos (by omega)]
        rfl
      · rw [List.getElem?_set_ne (by omega), if_neg (by omega)]
        simp
  · rw [if_neg h, if_neg (by omega)]
    simp
section
variable {P : Program} {w : World} {K : PySem.W.Frag} {mg : Str → Option Value} {base : Heap}
theorem m_idxI {H : Hp} {Q : VK} {a : Addr} {os : List Int} {k : Int} (hs : SqL K H a (os.map V.int)) (hk : k ∈ os) (h : ∀ j : Nat, os[j]? = some k → Q (.int (j : Nat)) H) : rIndex K (.ref a) [.int k] H Q := by
  obtain ⟨j, g, no⟩ := first_at hk
  refine WD.m_idx hs rfl (List.all_eq_true.mpr fun x hx => ?_) (by rw [List.getElem?_map, g]; rfl) (by show (k == k) = true; simp) (fun m z' hm hz => ?_) (h j g)
  · obtain ⟨i, _, rfl⟩ := List.mem_map.mp hx
    rfl
  · rw [List.getElem?_map] at hz
    obtain ⟨i, gi, rfl⟩ := Option.map_eq_some_iff.mp hz
    show (i == k) = false
    simpa using no m i hm gi
def spPicked : Sp := fun vs H Q _ => ∃ (a : Addr) (dr : List Int) (m : Nat), vs = [.ref a, .int m] ∧ H a = some (.lst (dr.map V.int)) ∧ dr.length ≤ 100 ∧ m ≤ 1000 ∧
  ∀ p H' nd, Same H H' → H p = none → H' p = some (.lst ((nd : List Int).map V.int)) → nd.Nodup → (∀ x ∈ nd, 0 ≤ x ∧ x ≤ m) → (dr ≠ [] → nd ≠ []) → nd.length ≤ dr.length → Q (.ref p) H'
theorem k_law_picked (T : Tx K mg) : C8.Cal P w K mg base 1 "_law_picked" spPicked [] := by
  refine cal_of (N := n_law_picked) T.d_law_picked sc_law_picked (fun _ _ F => F.bindsN fun _ _ _ _ _ _ us hl => match us, hl with | [_, _], _ => rfl) (fun vs H Q E h => ?_) (fun f cdv A outer s H vs Q E hr h => ?_)
  · obtain ⟨a, dr, m, rfl, _⟩ := h
    rfl
  · obtain ⟨a, dr, m, rfl, hA, hd, hm, q⟩ := h
    refine ⟨_, (pss_cons (ps_setLc (i := 2) (own := [("k", 5)]) (g := gName 5) (tt := tYes) (by rfl) sc_law_picked.nd rfl rfl (sw_true rfl rfl rfl (by decide +kernel)) (pi_range1 (by rfl) T.z_range (pa_cons (pe_op op_add3 (pv 1) pe_int) pa_nil)) (blkOk_by (own := [("k", 5)]) (N := n_law_picked) (sc := defScope s_law_picked) (by decide +kernel)) (fun _ _ _ _ _ => pg_name (i := 5) sc_law_picked.nd rfl (Or.inl rfl)) (fun _ _ _ _ _ => pts_nil) (fun _ _ _ _ _ => (pv 5))) (pss_cons (ps_asg (pe_lst pa_nil) (pg_name (i := 3) sc_law_picked.nd rfl (Or.inl rfl))) (pss_cons (ps_for PassesOwn.never rfl (pi_list (pv 0) : PI _ _ _ (iList K _)) (pg_name (i := 4) sc_law_picked.nd rfl (Or.inl rfl)) (pss_one (ps_if (pt_cmpR op_gt (pe_callB (call_len2 : CallR _ _ (rLn K)) (by rfl) T.z_len (by decide +kernel) (pa_cons (pv 2) pa_nil)) pe_int (nomark _)) (pss_one (ps_expr (pe_bm PySem.F.plainAttrs_list PySem.F.slot_list_append PySem.F.type_list_append mt_append (pv 3) (pa_cons (pe_bm PySem.F.plainAttrs_list PySem.F.slot_list_pop PySem.F.type_list_pop mt_popAt (pv 2) (pa_cons (pe_op op_mod (pe_callTy call_int2 (by rfl) T.z_int (by decide +kernel) (pa_cons (pv 4) pa_nil)) (pe_callB (call_len2 : CallR _ _ (rLn K)) (by rfl) T.z_len (by decide +kernel) (pa_cons (pv 2) pa_nil))) pa_nil) : PE _ _ (tBM K _ _ _ _)) pa_nil) : PE _ _ (tBM K _ _ _ _)))) pss_nil))) (pss_one (ps_ret (pv 3)))))), ?_⟩
    walk_at "xx"
    refine c_accR (One fun j y _ => y = .int j) (fun _ _ _ _ _ h => h) (fun i acc H hi h => small1000' (by rw [h.1]; omega)) One.zero (fun j H2 acc N M hj s2 o hN hM => ?_) (fun D H1 ys nD s1 e1 o => ?_)
    · rw [Int.zero_add]
      walk_at "xx"
      refine ⟨rfl, ?_⟩
      walk_at "xx"
      exact hN _ _ (Same.refl _) (o.snoc (fun _ _ h => h) rfl)
    have ey := o.eqR fun j y _ h => h
    have ey : ys = ((List.range (m + 1)).map fun (j : Nat) => (j : Int)).map V.int := by
      rw [ey, List.map_map, show ((m : Int) + 1).toNat = m + 1 by omega]
      rfl
    rw [ey] at e1
    clear o ey
    walk_at "xx"
    rename_i pp H2 n2 s2 e2
    have hA2 := (s1.trans s2) _ _ hA
    have nD2 : D ≠ pp := ne_of_none e1 n2
    walk_at "xx"
    refine f_list (xs := dr.map V.int) (fun i σ H' => ∃ z4 z5, ∃ ps pk : List Int, σ = [some (.ref a), some (.int m), some (.ref D), some (.ref pp), z4, z5] ∧ Same H H' ∧ H' D = some (.lst (ps.map V.int)) ∧ H' pp = some (.lst (pk.map V.int)) ∧
        (pk ++ ps).Perm ((List.range (m + 1)).map fun (j : Nat) => (j : Int)) ∧ (0 < i → pk ≠ []) ∧ pk.length ≤ i)
      ⟨_, _, _, [], rfl, s1.trans s2, s2 _ _ e1, e2, .refl _, fun h => absurd h (Nat.lt_irrefl _), Nat.le_refl _⟩ (fun i σ H' hi p => ?_) (fun i x σ H3 hx p => ?_) (fun σ H3 p => ?_)
    · obtain ⟨_, _, _, _, rfl, s3, _⟩ := p
      exact lst_of (s3 _ _ hA)
    · obtain ⟨z4, z5, ps, pk, rfl, s3, e3, f3, pm, hp, lp⟩ := p
      rw [List.getElem?_map] at hx
      obtain ⟨d, gd, rfl⟩ := Option.map_eq_some_iff.mp hx
      have pl := pm.length_eq
      rw [List.length_append, List.length_map, List.length_range] at pl
      walk_at "xx"
      refine b_lenL (lst_of e3) ?_
      rw [List.length_map]
      walk_at "xx"
      refine iteD (fun e => ?_) (fun e => ?_)
      · walk_at "xx"
        refine m_ty (lst_of f3) ?_
        walk_at "xx"
        refine m_ty (lst_of e3) ?_
        walk_at "xx"
        refine b_lenL (lst_of e3) ?_
        rw [List.length_map]
        refine o_modG e fun r r0 r1 => ?_
        walk_at "xx"
        have gr : ps[r.toNat]? = some ps[r.toNat] := List.getElem?_eq_getElem (by omega)
        refine m_popI (y := .int ps[r.toNat]) e3 (small1000' (by rw [List.length_map]; omega)) r0 (by rw [List.length_map]; omega) (by rw [List.getElem?_map, gr]; rfl) fun H4 c4 e4 => ?_
        have f4 := c4.at f3 (Ne.symm nD2)
        walk_at "xx"
        refine m_app f4 (small1000' (by rw [List.length_map]; omega)) fun H5 c5 e5 => ?_
        walk_at "xx"
        refine ⟨_, _, ps.eraseIdx r.toNat, pk ++ [ps[r.toNat]], rfl, c5.same (c4.same s3 nD) (Same.free (s1.trans (Same.refl _)) n2), (c5.at e4 nD2).trans (by rw [erase_map]), by rw [e5, List.map_append]; rfl, ?_, fun _ => by simp, by rw [List.length_append]; exact Nat.succ_le_succ lp⟩
        rw [List.append_assoc]
        exact (List.Perm.append_left pk (erase_perm gr)).trans pm
      · walk_at "xx"
        have : ps = [] := List.eq_nil_of_length_eq_zero (by omega)
        refine ⟨_, _, ps, pk, rfl, s3, e3, f3, pm, fun _ => ?_, by omega⟩
        intro e0
        rw [e0, this] at pl
        simp at pl
    · obtain ⟨z4, z5, ps, pk, rfl, s3, e3, f3, pm, hp, lp⟩ := p
      rw [List.length_map] at hp lp
      have nd : (pk ++ ps).Nodup := pm.nodup_iff.mpr (by
        rw [List.nodup_iff_pairwise_ne, List.pairwise_map]
        exact (List.nodup_range (n := m + 1)).imp fun h e => h (by omega))
      walk_at "xx"
      refine q _ _ pk s3 (s1.free n2) f3 (List.nodup_append.mp nd).1 (fun x hx => ?_) (fun h => hp (List.length_pos_iff.mpr h)) lp
      have := pm.mem_iff.mp (List.mem_append_left ps hx)
      obtain ⟨j, hj, rfl⟩ := List.mem_map.mp this
      have := List.mem_range.mp hj
      omega
def spTight : Sp := fun vs H Q _ => ∃ (a b : Addr) (nd ws : List Int) (m : Nat), vs = [.ref a, .ref b, .int m] ∧ H a = some (.lst (nd.map V.int)) ∧ H b = some (.lst (ws.map V.int)) ∧ m ≤ 1000 ∧ nd.Nodup ∧ (∀ x ∈ nd, 0 ≤ x ∧ x ≤ m) ∧ nd ≠ [] ∧ nd.length ≤ ws.length + 1 ∧ ws.length ≤ 100 ∧
  ∀ p H' vals dl, Same H H' → H p = none → H' p = some (.lst ((vals : List Int).map V.int)) → vals.length = m → (∀ j v, nd[j]? = some v → lv vals v = dl - (ws.take j).sum) → Q (.ref p) H'
theorem k_law_tight (T : Tx K mg) : C8.Cal P w K mg base 1 "_law_tight" spTight [] := by
  refine cal_of (N := n_law_tight) T.d_law_tight sc_law_tight (fun _ _ F => F.bindsN fun _ _ _ _ _ _ us hl => match us, hl with | [_, _, _], _ => rfl) (fun vs H Q E h => ?_) (fun f cdv A outer s H vs Q E hr h => ?_)
  · obtain ⟨a, b, nd, ws, m, rfl, _⟩ := h
    rfl
  · obtain ⟨a, b, nd, ws, m, rfl, hA, hB, hm, nn, hin, ne, ln, lw, q⟩ := h
    refine ⟨_, (pss_cons (ps_asg (pe_lc (own := [("k", 3)]) (g := gName 3) (tt := tYes) (by rfl) sc_law_tight.nd (pi_range1 (by rfl) T.z_range (pa_cons (pe_op op_add3 (pv 2) pe_int) pa_nil)) (blkOk_by (own := [("k", 3)]) (N := n_law_tight) (sc := defScope s_law_tight) (by decide +kernel)) (fun _ _ _ _ _ => pg_name (i := 3) sc_law_tight.nd rfl (Or.inl rfl)) (fun _ _ _ _ _ => pts_nil) (fun _ _ _ _ _ => pe_int)) (pg_name (i := 4) sc_law_tight.nd rfl (Or.inr rfl))) (pss_cons (ps_for PassesOwn.never rfl (pi_range1 (by rfl) T.z_range (pa_cons (pe_op op_sub (pe_callB (call_len2 : CallR _ _ (rLn K)) (by rfl) T.z_len (by decide +kernel) (pa_cons (pv 0) pa_nil)) pe_int) pa_nil)) (pg_name (i := 3) sc_law_tight.nd rfl (Or.inl rfl)) (pss_one (ps_asg (pe_op op_sub (pe_ix (ix_seq : IxR _ (rIx K)) (pv 4) (pe_ix (ix_seq : IxR _ (rIx K)) (pv 0) (pv 3) (fun _ _ => rfl)) (fun _ _ => rfl)) (pe_ix (ix_seq : IxR _ (rIx K)) (pv 1) (pv 3) (fun _ _ => rfl))) (pg_sub (pv 4) (pe_ix (ix_seq : IxR _ (rIx K)) (pv 0) (pe_op op_add3 (pv 3) pe_int) (fun _ _ => rfl)) set_list)))) (pss_one (ps_ret (pe_slice (sl_2 : SlR _ (rSl2 K)) (pe_lc (own := [("entry", 5)]) (g := gName 5) (tt := tYes) (by rfl) sc_law_tight.nd (pi_list (pv 4) : PI _ _ _ (iList K _)) (blkOk_by (own := [("entry", 5)]) (N := n_law_tight) (sc := defScope s_law_tight) (by decide +kernel)) (fun _ _ _ _ _ => pg_name (i := 5) sc_law_tight.nd rfl (Or.inl rfl)) (fun _ _ _ _ _ => pts_nil) (fun _ _ _ _ _ => (pe_op op_sub (pv 5) (pe_ix (ix_seq : IxR _ (rIx K)) (pv 4) pe_int (fun _ _ => rfl))))) (po_some pe_int) po_none))))), ?_⟩
    have lp : 0 < nd.length := List.length_pos_iff.mpr ne
    walk_at "xx"
    refine c_accR (One fun j y _ => y = .int 0) (fun _ _ _ _ _ h => h) (fun i acc H hi h => small1000' (by rw [h.1]; omega)) One.zero (fun j H2 acc N M hj s2 o hN hM => ?_) (fun D H1 ys nD s1 e1 o => ?_)
    · rw [Int.zero_add]
      walk_at "xx"
      refine ⟨rfl, ?_⟩
      walk_at "xx"
      exact hN _ _ (Same.refl _) (o.snoc (fun _ _ h => h) rfl)
    have ey := o.const
    have ey : ys = (List.replicate (m + 1) (0 : Int)).map V.int := by
      rw [ey, List.map_replicate, show ((m : Int) + 1).toNat = m + 1 by omega]
    rw [ey] at e1
    clear o ey
    walk_at "xx"
    refine b_lenL (lst_of (s1 _ _ hA)) ?_
    rw [List.length_map]
    walk_at "xx"
    refine f_range (fun i σ H' => ∃ z3 z5, ∃ L : List Int, σ = [some (.ref a), some (.ref b), some (.int m), z3, some (.ref D), z5] ∧ Same H H' ∧ H' D = some (.lst (L.map V.int)) ∧ L.length = m + 1 ∧ ∀ j (v : Int), j ≤ i → nd[j]? = some v → L[v.toNat]? = some (-(ws.take j).sum))
      ⟨_, _, _, rfl, s1, e1, by rw [List.length_replicate], fun j v hj gv => ?_⟩ (fun i σ H' hi p => ?_) (fun σ H3 p => ?_)
    · have : j = 0 := by omega
      subst this
      have := hin v (List.mem_of_getElem? gv)
      rw [List.getElem?_replicate, if_pos (by omega)]
      simp
    · obtain ⟨z3, z5, L, rfl, s3, e3, lL, inv⟩ := p
      have hi : i + 1 < nd.length := by omega
      have g0 : nd[i]? = some nd[i] := List.getElem?_eq_getElem (by omega)
      have g1 : nd[i + 1]? = some nd[i + 1] := List.getElem?_eq_getElem hi
      have gw : ws[i]? = some ws[i] := List.getElem?_eq_getElem (by omega)
      have r0 := hin _ (List.mem_of_getElem? g0)
      have r1 := hin _ (List.mem_of_getElem? g1)
      have gl := inv i _ (Nat.le_refl _) g0
      have hA3 := lst_of (K := K) (s3 _ _ hA)
      rw [Int.zero_add]
      walk_at "xx"
      refine ix_int hA3 (by omega) (by omega) fun x gx => ?_
      rw [Int.toNat_natCast, g0] at gx
      cases gx
      refine ix_int (lst_of e3) r0.1 (by omega) fun x gx => ?_
      rw [gl] at gx
      cases gx
      walk_at "xx"
      refine ix_int (lst_of (s3 _ _ hB)) (by omega) (by omega) fun x gx => ?_
      rw [Int.toNat_natCast, gw] at gx
      cases gx
      walk_at "xx"
      refine ix_int hA3 (by omega) (by omega) fun x gx => ?_
      rw [show ((i : Int) + 1).toNat = i + 1 by omega, g1] at gx
      cases gx
      refine st_L e3 (j := nd[i + 1].toNat) (by rw [List.length_map]; exact ixN_of r1.1 (by omega)) fun H4 c4 e4 => ?_
      refine ⟨_, _, L.set nd[i + 1].toNat (-(ws.take i).sum - ws[i]), rfl, c4.same s3 nD, by rw [e4, List.map_set], by rw [List.length_set]; exact lL, fun j v hj gv => ?_⟩
      by_cases e : j = i + 1
      · subst e
        rw [g1] at gv
        cases gv
        rw [List.getElem?_set_self (by omega), take_sum1 gw]
        simp
        omega
      · have := inv j v (by omega) gv
        rw [List.getElem?_set_ne ?_]
        · exact this
        · intro e2
          have r2 := hin _ (List.mem_of_getElem? gv)
          have e3 : nd[i + 1] = v := by omega
          rw [← e3] at gv
          have := nd_inj nn gv g1
          omega
    · obtain ⟨z3, z5, L, rfl, s3, e3, lL, inv⟩ := p
      have lE : (L.map V.int).length = m + 1 := by rw [List.length_map]; exact lL
      have g0 : L[0]? = some L[0] := List.getElem?_eq_getElem (by omega)
      walk_at "xx"
      refine c_acc (xs := L.map V.int) (.inl ⟨rfl, lst_of e3⟩) (One fun j y _ => y = .int (L.getD j 0 - L[0])) (fun _ _ _ _ _ h => h) (fun i acc H hi h => small1000' (by rw [h.1]; omega)) One.zero (fun j x H4 acc N M hx s4 o hN hM => ?_) (fun D2 H4 ys nD2 s4 e4 o => ?_)
      · rw [List.getElem?_map] at hx
        obtain ⟨d, gd, rfl⟩ := Option.map_eq_some_iff.mp hx
        walk_at "xx"
        refine ⟨rfl, ?_⟩
        walk_at "xx"
        refine ix_int (lst_of (s4 _ _ e3)) (by omega) (by omega) fun x gx => ?_
        rw [show (0 : Int).toNat = 0 from rfl, g0] at gx
        cases gx
        walk_at "xx"
        exact hN _ _ (Same.refl _) (o.snoc (fun _ _ h => h) (by rw [List.getD_eq_getElem?_getD, gd]; rfl))
      rw [lE] at o
      have ey := o.eqR fun j y _ h => h
      have ey : ys = ((List.range (m + 1)).map fun j => L.getD j 0 - L[0]).map V.int := by
        rw [ey, List.map_map]
        rfl
      rw [ey] at e4
      walk_at "xx"
      rename_i p H5 n5 s5 e5
      rw [cut1, ← List.map_drop] at e5
      have S5 := s3.trans (s4.trans s5)
      refine q p H5 _ (-L[0]) S5 ((s3.trans s4).free n5) e5 (by simp) fun j v gv => ?_
      have r2 := hin _ (List.mem_of_getElem? gv)
      have hj := (List.getElem?_eq_some_iff.mp gv).1
      have gl := inv j v (by omega) gv
      unfold lv
      have e0 : ((0 : Int) :: ((List.range (m + 1)).map fun j => L.getD j 0 - L[0]).drop 1) = (List.range (m + 1)).map fun j => L.getD j 0 - L[0] := by
        rw [List.range_succ_eq_map, List.map_cons, List.drop_one, List.tail_cons, List.getD_eq_getElem?_getD, g0]
        simp
      rw [e0, List.getD_eq_getElem?_getD, List.getElem?_map, List.getElem?_range (by omega)]
      show L.getD v.toNat 0 - L[0] = _
      rw [List.getD_eq_getElem?_getD, gl]
      show -(ws.take j).sum - L[0] = _
      omega
end
end K15
namespace K15
open PySem PySem.Spec PyProof.Rows L2 Wy WN WQ WS WC

-- WIDE
section
variable {P : Program} {w : World} {K : PySem.W.Frag} {mg : Str → Option Value} {base : Heap}
theorem insAt {α β : Type} (f : α → β) (z : List α) (x : α) (i : Nat) : (z.take i ++ [x] ++ z.drop i).map f = (z.map f).take i ++ [f x] ++ (z.map f).drop i := by
  rw [List.map_append, List.map_append, List.map_take, List.map_drop]
  rfl
theorem mem_ins {α : Type} {z : List α} {x y : α} {i : Nat} : y ∈ z.take i ++ [x] ++ z.drop i ↔ y = x ∨ y ∈ z := by
  conv => rhs; rw [← List.take_append_drop i z]
  simp only [List.mem_append, List.mem_singleton]
  constructor
  · rintro ((h | h) | h)
    · exact .inr (.inl h)
    · exact .inl h
    · exact .inr (.inr h)
  · rintro (h | h | h)
    · exact .inl (.inr h)
    · exact .inl (.inl h)
    · exact .inr h
theorem len_ins {α : Type} {z : List α} {x : α} {i : Nat} : (z.take i ++ [x] ++ z.drop i).length = z.length + 1 := by
  have := congrArg List.length (List.take_append_drop i z)
  rw [List.length_append] at this
  simp only [List.length_append, List.length_singleton]
  omega
/-- what was placed: each edge once, at the place that its number tells -/
structure Pl (es os : List Df) (z : List (Df × Int)) (k : Nat) : Prop where
  len : z.length = os.length + k
  told : ∀ x ∈ z, (x.2 = -1 ∧ x.1 ∈ os) ∨ ∃ j : Nat, j < k ∧ x.2 = j ∧ es[j]? = some x.1
  has : ∀ j : Nat, j < k → ∃ d, (d, (j : Int)) ∈ z
def spPlaced (K : PySem.W.Frag) : Sp := fun vs H Q _ => ∃ (a e o : Addr) (zs : List Int) (ue uo : List V) (es os : List Df), vs = [.ref a, .ref e, .ref o] ∧ SqL K H a (zs.map V.int) ∧ H e = some (.lst ue) ∧ TpAll H ue (es.map dfD) ∧ H o = some (.lst uo) ∧ TpAll H uo (os.map dfD) ∧ es.length ≤ 100 ∧ os.length ≤ 100 ∧
  ∀ t p n H' us ds ns, Same H H' → H' t = some (.tup [.ref p, .ref n]) → H' p = some (.lst us) → TpAll H' us ((ds : List Df).map dfD) → H' n = some (.lst ((ns : List Int).map V.int)) → ns.length = es.length → (∀ n ∈ ns, 0 ≤ n ∧ n < ds.length) → ns.map (dsAt ds) = es →
    (∀ d ∈ ds, d ∈ es ∨ d ∈ os) → ds.length = os.length + es.length → Q (.ref t) H'
theorem k_law_placed (T : Tx K mg) : C8.Cal P w K mg base 3 "_law_placed" (spPlaced K) [] := by
  refine cal_of (N := n_law_placed) T.d_law_placed sc_law_placed (fun _ _ F => F.bindsN fun _ _ _ _ _ _ us hl => match us, hl with | [_, _, _], _ => rfl) (fun vs H Q E h => ?_) (fun f cdv A outer s H vs Q E hr h => ?_)
  · obtain ⟨a, e, o, zs, ue, uo, es, os, rfl, _⟩ := h
    rfl
  · obtain ⟨a, e, o, zs, ue, uo, es, os, rfl, hA, hE, tE, hO, tO, le, lo, q⟩ := h
    refine ⟨_, (pss_cons (ps_asg (C8.pe_c (k_law_draws T) hr (by first | decide | omega) (by rfl) (pa_cons (pv 0) (pa_cons pe_int (pa_cons (pe_lc (own := [("k", 3)]) (g := gName 3) (tt := tYes) (by rfl) sc_law_placed.nd (pi_range1 (by rfl) T.z_range (pa_cons (pe_callB (call_len2 : CallR _ _ (rLn K)) (by rfl) T.z_len (by decide +kernel) (pa_cons (pv 1) pa_nil)) pa_nil)) (blkOk_by (own := [("k", 3)]) (N := n_law_placed) (sc := defScope s_law_placed) (by decide +kernel)) (fun _ _ _ _ _ => pg_name (i := 3) sc_law_placed.nd rfl (Or.inl rfl)) (fun _ _ _ _ _ => pts_nil) (fun _ _ _ _ _ => pe_int)) pa_nil)))) (pg_name (i := 4) sc_law_placed.nd rfl (Or.inl rfl))) (pss_cons (ps_asg (pe_callTy (call_lst : CallR _ _ (rLst K)) (by rfl) T.z_list (by decide +kernel) (pa_cons (pv 2) pa_nil)) (pg_name (i := 5) sc_law_placed.nd rfl (Or.inl rfl))) (pss_cons (ps_asg (pe_lc (own := [("one", 8)]) (g := gName 8) (tt := tYes) (by rfl) sc_law_placed.nd (pi_list (pv 2) : PI _ _ _ (iList K _)) (blkOk_by (own := [("one", 8)]) (N := n_law_placed) (sc := defScope s_law_placed) (by decide +kernel)) (fun _ _ _ _ _ => pg_name (i := 8) sc_law_placed.nd rfl (Or.inl rfl)) (fun _ _ _ _ _ => pts_nil) (fun _ _ _ _ _ => (pe_un un_neg pe_int))) (pg_name (i := 6) sc_law_placed.nd rfl (Or.inr rfl))) (pss_cons (ps_for PassesOwn.never rfl (pi_range1 (by rfl) T.z_range (pa_cons (pe_callB (call_len2 : CallR _ _ (rLn K)) (by rfl) T.z_len (by decide +kernel) (pa_cons (pv 1) pa_nil)) pa_nil)) (pg_name (i := 3) sc_law_placed.nd rfl (Or.inl rfl)) (pss_cons (ps_asg (pe_op op_mod (pe_callTy call_int2 (by rfl) T.z_int (by decide +kernel) (pa_cons (pe_ix (ix_seq : IxR _ (rIx K)) (pv 4) (pv 3) (fun _ _ => rfl)) pa_nil)) (pe_op op_add3 (pe_callB (call_len2 : CallR _ _ (rLn K)) (by rfl) T.z_len (by decide +kernel) (pa_cons (pv 5) pa_nil)) pe_int)) (pg_name (i := 7) sc_law_placed.nd rfl (Or.inl rfl))) (pss_cons (ps_expr (pe_bm PySem.F.plainAttrs_list PySem.F.slot_list_insert PySem.F.type_list_insert WC.mt_insert2 (pv 5) (pa_cons (pv 7) (pa_cons (pe_ix (ix_seq : IxR _ (rIx K)) (pv 1) (pv 3) (fun _ _ => rfl)) pa_nil)) : PE _ _ (tBM K _ _ _ _))) (pss_one (ps_expr (pe_bm PySem.F.plainAttrs_list PySem.F.slot_list_insert PySem.F.type_list_insert WC.mt_insert2 (pv 6) (pa_cons (pv 7) (pa_cons (pv 3) pa_nil)) : PE _ _ (tBM K _ _ _ _))))))) (pss_one (ps_ret (pe_tup (pa_cons (pv 5) (pa_cons (pe_lc (own := [("k", 3)]) (g := gName 3) (tt := tYes) (by rfl) sc_law_placed.nd (pi_range1 (by rfl) T.z_range (pa_cons (pe_callB (call_len2 : CallR _ _ (rLn K)) (by rfl) T.z_len (by decide +kernel) (pa_cons (pv 1) pa_nil)) pa_nil)) (blkOk_by (own := [("k", 3)]) (N := n_law_placed) (sc := defScope s_law_placed) (by decide +kernel)) (fun _ _ _ _ _ => pg_name (i := 3) sc_law_placed.nd rfl (Or.inl rfl)) (fun _ _ _ _ _ => pts_nil) (fun _ _ _ _ _ => (WC.pe_bmK (K := K) PySem.F.plainAttrs_list PySem.F.slot_list_index PySem.F.type_list_index (mt_index : MtR _ _ (rIndex K)) (pv 6) (pa_cons (pv 3) pa_nil)))) pa_nil))))))))), ?_⟩
    have lue := tE.length
    have luo := tO.length
    rw [List.length_map] at lue luo
    walk_at "xx"
    refine b_lenL (lst_of hE) ?_
    walk_at "xx"
    refine c_accR (One fun j y _ => y = .int 1000) (fun _ _ _ _ _ h => h) (fun i acc H hi h => small1000' (by rw [h.1]; omega)) One.zero (fun j H2 acc N M hj s2 o hN hM => ?_) (fun D H1 ys nD s1 e1 o => ?_)
    · rw [Int.zero_add]
      walk_at "xx"
      refine ⟨rfl, ?_⟩
      walk_at "xx"
      exact hN _ _ (Same.refl _) (o.snoc (fun _ _ h => h) rfl)
    have ey := o.const
    have ey : ys = (List.replicate es.length (1000 : Int)).map V.int := by
      rw [ey, List.map_replicate, Int.toNat_natCast, lue]
    rw [ey] at e1
    clear o ey
    walk_at "xx"
    refine ⟨a, D, zs, _, 4, rfl, s1.seq hA, lst_of e1, ⟨by rw [List.length_replicate]; omega, fun s hs => by rw [(List.mem_replicate.mp hs).2]; decide⟩, fun dp H2 dr s2 n2 e2 hd => ?_⟩
    have ld := hd.len
    rw [List.length_replicate] at ld
    have S2 := s1.trans s2
    walk_at "xx"
    refine ls_new (lst_of (S2 _ _ hO)) fun pp H3 n3 s3 e3 => ?_
    have S3 := S2.trans s3
    walk_at "xx"
    refine c_acc (.inl ⟨rfl, lst_of (S3 _ _ hO)⟩) (One fun j y _ => y = .int (-1)) (fun _ _ _ _ _ h => h) (fun i acc H hi h => small1000' (by rw [h.1]; omega)) One.zero (fun j x H4 acc N M hx s4 o hN hM => ?_) (fun op H4 ys nO s4 e4 o => ?_)
    · walk_at "xx"
      refine ⟨rfl, ?_⟩
      walk_at "xx"
      exact hN _ _ (Same.refl _) (o.snoc (fun _ _ h => h) rfl)
    have ey := o.const
    rw [luo] at ey
    rw [ey] at e4
    clear o ey
    have S4 := S3.trans s4
    walk_at "xx"
    refine b_lenL (lst_of (S4 _ _ hE)) ?_
    have npo : pp ≠ op := ne_of_none e3 nO
    walk_at "xx"
    refine f_range (fun i σ H' => ∃ z3 z7 z8, ∃ us, ∃ z : List (Df × Int), σ = [some (.ref a), some (.ref e), some (.ref o), z3, some (.ref dp), some (.ref pp), some (.ref op), z7, z8] ∧ Same H2 H' ∧ H' pp = some (.lst us) ∧ TpAll H' us ((z.map (·.1)).map dfD) ∧ H' op = some (.lst ((z.map (·.2)).map V.int)) ∧ Pl es os z i)
      ⟨_, _, _, _, os.map fun d => (d, -1), rfl, s3.trans s4, s4 _ _ e3, by rw [List.map_map]; simpa [Function.comp_def] using tO.tk S4.tk, by rw [e4, List.map_map, List.map_map, ← List.map_const']; rfl, ⟨by rw [List.length_map]; rfl, fun x hx => ?_, fun j hj => absurd hj (Nat.not_lt_zero _)⟩⟩ (fun i σ H5 hi p => ?_) (fun σ H5 p => ?_)
    · obtain ⟨d, hd, rfl⟩ := List.mem_map.mp hx
      exact .inl ⟨rfl, hd⟩
    · obtain ⟨z3, z7, z8, us, z, rfl, s5, e5, t5, f5, pl⟩ := p
      have hi : i < es.length := by omega
      have lu := t5.length
      have lz := pl.len
      rw [List.length_map, List.length_map] at lu
      rw [Int.zero_add]
      have S5 := S2.trans s5
      obtain ⟨u, gu, tu⟩ := tpAt (tE.tk S5.tk) (List.getElem?_eq_getElem hi)
      walk_at "xx"
      refine ix_int (lst_of (s5 _ _ e2)) (by omega) (by omega) fun x gx => ?_
      walk_at "xx"
      refine b_lenL (lst_of e5) ?_
      walk_at "xx"
      have r0 := Int.emod_nonneg x (show (us.length : Int) + 1 ≠ 0 by omega)
      have r1 := Int.emod_lt_of_pos x (show (0 : Int) < (us.length : Int) + 1 by omega)
      generalize x % ((us.length : Int) + 1) = r at r0 r1 ⊢
      refine m_ty (lst_of e5) ?_
      walk_at "xx"
      refine o_ixL (lst_of (S5 _ _ hE)) (atI_nat gu) ?_
      walk_at "xx"
      refine m_ins e5 (small1000' (by omega)) r0 (by omega) fun H6 c6 e6 => ?_
      have f6 := c6.at f5 (Ne.symm npo)
      walk_at "xx"
      refine m_ty (lst_of f6) ?_
      walk_at "xx"
      refine m_ins f6 (small1000' (by simp only [List.length_map]; omega)) r0 (by simp only [List.length_map]; omega) fun H7 c7 f7 => ?_
      have e7 := c7.at e6 npo
      have tk : TK H5 H7 := (c6.tk e5).trans (c7.tk f6)
      walk_at "xx"
      refine ⟨_, _, _, _, z.take r.toNat ++ [(es[i], (i : Int))] ++ z.drop r.toNat, rfl, c7.same (c6.same s5 n3) (s3.free nO), e7, ?_, by rw [f7, insAt, insAt], ⟨by rw [len_ins, lz]; omega, fun x hx => ?_, fun j hj => ?_⟩⟩
      · rw [insAt, insAt]
        exact tpIns (t5.tk tk) (tu.tk tk)
      · rcases mem_ins.mp hx with rfl | hx
        · exact .inr ⟨i, Nat.lt_succ_self i, rfl, List.getElem?_eq_getElem hi⟩
        · exact (pl.told x hx).imp id fun ⟨j, h1, h2⟩ => ⟨j, by omega, h2⟩
      · by_cases ej : j = i
        · subst ej
          exact ⟨_, mem_ins.mpr (.inl rfl)⟩
        · obtain ⟨d, hd⟩ := pl.has j (by omega)
          exact ⟨d, mem_ins.mpr (.inr hd)⟩
    · obtain ⟨z3, z7, z8, us, z, rfl, s5, e5, t5, f5, pl⟩ := p
      have S5 := S2.trans s5
      have lz := pl.len
      rw [Int.toNat_natCast, lue] at pl lz
      walk_at "xx"
      refine b_lenL (lst_of (S5 _ _ hE)) ?_
      walk_at "xx"
      rw [lue]
      refine c_accR (One fun j y _ => ∃ m : Nat, y = .int m ∧ (z.map (·.2))[m]? = some (j : Int)) (fun _ _ _ _ _ h => h) (fun i acc H hi h => small1000' (by rw [h.1]; omega)) One.zero (fun j H6 acc N M hj s6 o hN hM => ?_) (fun np H6 ys nN s6 e6 o => ?_)
      · rw [Int.zero_add]
        walk_at "xx"
        refine ⟨rfl, ?_⟩
        walk_at "xx"
        refine m_ty (lst_of (s6 _ _ f5)) ?_
        walk_at "xx"
        obtain ⟨d, hd⟩ := pl.has j (by omega)
        refine m_idxI (lst_of (s6 _ _ f5)) (List.mem_map.mpr ⟨_, hd, rfl⟩) fun m gm => ?_
        walk_at "xx"
        exact hN _ _ (Same.refl _) (o.snoc (fun _ _ h => h) ⟨m, rfl, gm⟩)
      rw [Int.toNat_natCast] at o
      obtain ⟨ns, rfl, ln⟩ := o.ints fun j y _ h => ⟨_, h.choose_spec.1⟩
      have fact : ∀ (j : Nat) (v : Int), ns[j]? = some v → ∃ m : Nat, v = m ∧ ∃ d, z[m]? = some (d, (j : Int)) ∧ es[j]? = some d := fun j v gv => by
        obtain ⟨m, h1, h2⟩ := o.2 j (.int v) (by rw [List.getElem?_map, gv]; rfl)
        cases h1
        rw [List.getElem?_map] at h2
        obtain ⟨⟨d, jj⟩, gz, rfl⟩ := Option.map_eq_some_iff.mp h2
        refine ⟨m, rfl, d, gz, ?_⟩
        rcases pl.told _ (List.mem_of_getElem? gz) with ⟨h3, _⟩ | ⟨j2, _, h3, h4⟩
        · have h3 : (j : Int) = -1 := h3
          omega
        · have h3 : (j : Int) = j2 := h3
          rw [show j2 = j by omega] at h4
          exact h4
      walk_at "xx"
      rename_i tp H7 n7 s7 e7
      have s57 := s6.trans s7
      refine q tp pp np H7 us (z.map (·.1)) ns (S5.trans s57) e7 (s57 _ _ e5) (t5.tk s57.tk) (s7 _ _ e6) ln (fun n hn => ?_) ?_ (fun d hd => ?_) (by rw [List.length_map]; exact lz)
      · obtain ⟨j, hj, rfl⟩ := List.getElem_of_mem hn
        obtain ⟨m, h1, d, h2, _⟩ := fact j _ (List.getElem?_eq_getElem hj)
        have := (List.getElem?_eq_some_iff.mp h2).1
        rw [List.length_map]
        omega
      · refine List.ext_getElem? fun j => ?_
        rw [List.getElem?_map]
        by_cases hj : j < ns.length
        · obtain ⟨m, h1, d, h2, h3⟩ := fact j _ (List.getElem?_eq_getElem hj)
          rw [List.getElem?_eq_getElem hj, h3]
          show some (dsAt _ ns[j]) = _
          rw [h1]
          unfold dsAt
          rw [List.getD_eq_getElem?_getD, Int.toNat_natCast, List.getElem?_map, h2]
          rfl
        · rw [List.getElem?_eq_none (by omega), List.getElem?_eq_none (by omega)]
          rfl
      · obtain ⟨x, hx, rfl⟩ := List.mem_map.mp hd
        rcases pl.told x hx with ⟨_, h⟩ | ⟨j, _, _, h⟩
        · exact .inr h
        · exact .inl (List.mem_of_getElem? h)
end
end K15
namespace K15
open PySem PySem.Spec PyProof.Rows L2 Wy WN WQ WS WC WE

-- WIDE
section
variable {P : Program} {w : World} {K : PySem.W.Frag} {mg : Str → Option Value} {base : Heap}
def spRows (K : PySem.W.Frag) : Sp := fun vs H Q _ => ∃ (a v : Addr) (zs vals : List Int) (at' : Int), vs = [.ref a, .ref v, .int at'] ∧ SqL K H a (zs.map V.int) ∧ H v = some (.lst (vals.map V.int)) ∧ 0 ≤ at' ∧ at' ≤ vals.length ∧ vals.length ≤ 100 ∧
  ∀ p a1 a2 a3 H' v3, Same H H' → H' p = some (.lst [.ref v, .ref a1, .ref a2, .ref a3]) → H' a1 = some (.lst ((bump vals at' (-1)).map V.int)) → H' a2 = some (.lst ((bump vals at' 1).map V.int)) → H' a3 = some (.lst ((v3 : List Int).map V.int)) → v3.length = vals.length → Q (.ref p) H'
def stp (j : Nat) : Int := if j = 0 then -1 else 1
theorem k_law_rows (T : Tx K mg) : C8.Cal P w K mg base 3 "_law_rows" (spRows K) [] := by
  refine cal_of (N := n_law_rows) T.d_law_rows sc_law_rows (fun _ _ F => F.bindsN fun _ _ _ _ _ _ us hl => match us, hl with | [_, _, _], _ => rfl) (fun vs H Q E h => ?_) (fun f cdv A outer s H vs Q E hr h => ?_)
  · obtain ⟨a, v, zs, vals, at', rfl, _⟩ := h
    rfl
  · obtain ⟨a, v, zs, vals, at', rfl, hA, hV, h0, h1, hl, q⟩ := h
    refine ⟨_, (pss_cons (ps_asg (pe_lst (pa_cons (pv 1) pa_nil)) (pg_name (i := 3) sc_law_rows.nd rfl (Or.inl rfl))) (pss_cons (ps_for PassesOwn.never rfl (pi_list (pe_lst (pa_cons (pe_un un_neg pe_int) (pa_cons pe_int pa_nil))) : PI _ _ _ (iList K _)) (pg_name (i := 4) sc_law_rows.nd rfl (Or.inl rfl)) (pss_cons (ps_asg (pe_callTy (call_lst : CallR _ _ (rLst K)) (by rfl) T.z_list (by decide +kernel) (pa_cons (pv 1) pa_nil)) (pg_name (i := 5) sc_law_rows.nd rfl (Or.inl rfl))) (C8.pss_cut (ps_if (pt_cmpR op_gt (pv 2) pe_int (nomark _)) (pss_one (ps_asg (pe_op op_add3 (pe_ix (ix_seq : IxR _ (rIx K)) (pv 5) (pe_op op_sub (pv 2) pe_int) (fun _ _ => rfl)) (pv 4)) (pg_sub (pv 5) (pe_op op_sub (pv 2) pe_int) set_list))) pss_nil) (pss_one (ps_expr (pe_bm PySem.F.plainAttrs_list PySem.F.slot_list_append PySem.F.type_list_append mt_append (pv 3) (pa_cons (pv 5) pa_nil) : PE _ _ (tBM K _ _ _ _))))))) (pss_cons (ps_expr (pe_bm PySem.F.plainAttrs_list PySem.F.slot_list_append PySem.F.type_list_append mt_append (pv 3) (pa_cons (pe_lc (own := [("draw", 6)]) (g := gName 6) (tt := tYes) (by rfl) sc_law_rows.nd (pi_list (C8.pe_c (k_law_draws T) hr (by first | decide | omega) (by rfl) (pa_cons (pv 0) (pa_cons pe_int (pa_cons (pe_lc (own := [("k", 7)]) (g := gName 7) (tt := tYes) (by rfl) sc_law_rows.nd (pi_range1 (by rfl) T.z_range (pa_cons (pe_callB (call_len2 : CallR _ _ (rLn K)) (by rfl) T.z_len (by decide +kernel) (pa_cons (pv 1) pa_nil)) pa_nil)) (blkOk_by (own := [("k", 7)]) (N := n_law_rows) (sc := defScope s_law_rows) (by decide +kernel)) (fun _ _ _ _ _ => pg_name (i := 7) sc_law_rows.nd rfl (Or.inl rfl)) (fun _ _ _ _ _ => pts_nil) (fun _ _ _ _ _ => (pe_op op_pow pe_int pe_int))) pa_nil)))) : PI _ _ _ (iList K _)) (blkOk_by (own := [("draw", 6)]) (N := n_law_rows) (sc := defScope s_law_rows) (by decide +kernel)) (fun _ _ _ _ _ => pg_name (i := 6) sc_law_rows.nd rfl (Or.inl rfl)) (fun _ _ _ _ _ => pts_nil) (fun _ _ _ _ _ => (C8.pe_c (k_law_weight T) hr (by first | decide | omega) (by rfl) (pa_cons (pv 6) pa_nil)))) pa_nil) : PE _ _ (tBM K _ _ _ _))) (pss_one (ps_ret (pv 3)))))), ?_⟩
    walk_at "xx"
    rename_i rp H1 n1 s1 e1 sp H2 n2 s2 e2
    refine f_list (xs := [.int (-1), .int 1]) (fun i σ H' => ∃ z4 z5 rs, σ = [some (.ref a), some (.ref v), some (.int at'), some (.ref rp), z4, z5, none, none] ∧ Same H H' ∧ H' sp = some (.lst [.int (-1), .int 1]) ∧ H' rp = some (.lst (.ref v :: rs)) ∧ rs.length = i ∧
        ∀ j r, rs[j]? = some r → ∃ b, r = .ref b ∧ H' b = some (.lst ((bump vals at' (stp j)).map V.int)))
      ⟨_, _, [], rfl, s1.trans s2, e2, s2 _ _ e1, rfl, fun j r h => by cases h⟩ (fun i σ H' hi p => ?_) (fun i x σ H3 hx p => ?_) (fun σ H3 p => ?_)
    · obtain ⟨_, _, _, rfl, _, e3, _⟩ := p
      exact lst_of e3
    · obtain ⟨z4, z5, rs, rfl, s3, e3, f3, lr, hr3⟩ := p
      obtain rfl : x = .int (stp i) := by
        match i, hx with
        | 0, hx => exact (Option.some.inj hx).symm
        | 1, hx => exact (Option.some.inj hx).symm
      have hi : i < 2 := (List.getElem?_eq_some_iff.mp hx).1
      generalize hst : stp i = st
      walk_at "xx"
      refine ls_new (lst_of (s3 _ _ hV)) fun bp H4 n4 s4 e4 => ?_
      walk_at "xx"
      refine s_cut (fun σ H' => σ = [some (.ref a), some (.ref v), some (.int at'), some (.ref rp), some (.int st), some (.ref bp), none, none] ∧ Same H3 H' ∧ H' bp = some (.lst ((bump vals at' st).map V.int))) ?_ (fun σ H5 p => ?_)
      · unfold bump
        walk_at "xx"
        refine iteD (fun e => ?_) (fun e => ?_)
        · rw [if_pos e]
          walk_at "xx"
          refine ix_int (lst_of e4) (by omega) (by omega) fun x gx => ?_
          walk_at "xx"
          refine st_L e4 (j := (at' - 1).toNat) (by rw [List.length_map]; exact ixN_of (by omega) (by omega)) fun H5 c5 e5 => ?_
          refine ⟨rfl, c5.same s4 n4, ?_⟩
          rw [e5, List.map_set, List.getD_eq_getElem?_getD, gx]
          rfl
        · rw [if_neg e]
          walk_at "xx"
          exact ⟨rfl, s4, e4⟩
      obtain ⟨rfl, s5, e5⟩ := p
      have f5 := s5 _ _ f3
      walk_at "xx"
      refine m_ty (lst_of f5) ?_
      walk_at "xx"
      refine m_app f5 (small1000' (by rw [List.length_cons]; omega)) fun H6 c6 e6 => ?_
      have nsp : sp ≠ rp := fun e => by
        have := ne_ints (xs := [-1, 1]) (b := sp) f3 e3
        exact this e
      refine ⟨_, _, rs ++ [.ref bp], rfl, c6.same (s3.trans s5) n1, c6.at (s5 _ _ e3) nsp, show H6 rp = some (.lst (.ref v :: (rs ++ [.ref bp]))) from e6, by rw [List.length_append, lr]; rfl, fun j r gr => ?_⟩
      by_cases hj : j < rs.length
      · rw [List.getElem?_append_left hj] at gr
        obtain ⟨b, rfl, eb⟩ := hr3 j r gr
        exact ⟨b, rfl, c6.at (s5 _ _ eb) (ne_ints f3 eb)⟩
      · have hj2 := (List.getElem?_eq_some_iff.mp gr).1
        rw [List.length_append, List.length_singleton] at hj2
        have : j = rs.length := by omega
        subst this
        rw [List.getElem?_append_right (Nat.le_refl _), Nat.sub_self] at gr
        cases gr
        rw [lr, hst]
        exact ⟨bp, rfl, c6.at e5 (ne_ints f5 e5)⟩
    · obtain ⟨z4, z5, rs, rfl, s3, e3, f3, lr, hr3⟩ := p
      have lr : rs.length = 2 := lr
      match rs, lr, hr3 with
      | [r1, r2], _, hr3 =>
      obtain ⟨b1, rfl, g1⟩ := hr3 0 r1 rfl
      obtain ⟨b2, rfl, g2⟩ := hr3 1 r2 rfl
      walk_at "xx"
      refine m_ty (lst_of f3) ?_
      walk_at "xx"
      refine b_lenL (lst_of (s3 _ _ hV)) ?_
      rw [List.length_map]
      walk_at "xx"
      rw [Int.toNat_natCast]
      refine c_constI (c := 10 ^ 42) (fun _ _ _ h => ?_) (by omega) (fun _ => rfl) fun D H4 nD s4 e4 => ?_
      · walk_at "xx"
        exact h
      walk_at "xx"
      refine ⟨a, D, zs, _, 5, rfl, (s3.trans s4).seq hA, lst_of e4, ⟨by rw [List.length_replicate]; omega, fun s hs => by rw [(List.mem_replicate.mp hs).2]; decide +kernel⟩, fun dp H5 dr s5 n5 e5 hd => ?_⟩
      have ld := hd.len
      rw [List.length_replicate] at ld
      walk_at "xx"
      refine c_ints (lst_of e5) (fun x H N hN => ?_) (by omega) (fun _ => rfl) fun D2 H6 v3 nD2 s6 l6 e6 => ?_
      · walk_at "xx"
        refine ⟨x, rfl, fun r => ?_⟩
        exact hN r
      have S := s4.trans (s5.trans s6)
      have f6 := S _ _ f3
      walk_at "xx"
      refine m_app f6 (small1000' (by simp)) fun H7 c7 e7 => ?_
      walk_at "xx"
      exact q rp b1 b2 D2 H7 v3 (c7.same (s3.trans S) n1) e7 (c7.at (S _ _ g1) (ne_ints f3 g1)) (c7.at (S _ _ g2) (ne_ints f3 g2)) (c7.at e6 (ne_ints f6 e6)) (by omega)
end
end K15
namespace K15
open PySem PySem.Spec PyProof.Rows L2 Wy WN WQ WS WC WE
/-! ### the edges -/
def edge (nd ws : List Int) (m k : Nat) : Df := (nd.getD k 0, nd.getD ((k + 1) % m) 0, ws.getD k 0)
def edgeO (nd ws : List Int) (k : Nat) : Df := (nd.getD k 0, nd.getD (k + 1) 0, ws.getD k 0)
theorem getD_of {xs : List Int} {i : Nat} {x : Int} (h : xs[i]? = some x) : xs.getD i 0 = x := by
  rw [List.getD_eq_getElem?_getD, h]
  rfl
theorem closed_path {nd ws : List Int} {m : Nat} (hm : 0 < m) (hw : m ≤ ws.length) : Path ((List.range m).map (edge nd ws m)) (nd.getD 0 0) (nd.getD 0 0) ((ws.take m).sum) := by
  have p := path_of (fun k => nd.getD (k % m) 0) (fun k => ws.getD k 0) m
  rw [take_sum hw, Nat.mod_self, Nat.zero_mod] at p
  have e : (List.range m).map (fun k => (nd.getD (k % m) 0, nd.getD ((k + 1) % m) 0, ws.getD k 0)) = (List.range m).map (edge nd ws m) := by
    refine List.map_congr_left fun k hk => ?_
    rw [Nat.mod_eq_of_lt (List.mem_range.mp hk)]
    rfl
  rw [e] at p
  exact p
theorem open_path {nd ws : List Int} {m : Nat} (hw : m ≤ ws.length) : Path ((List.range m).map (edgeO nd ws)) (nd.getD 0 0) (nd.getD m 0) ((ws.take m).sum) := by
  have p := path_of (fun k => nd.getD k 0) (fun k => ws.getD k 0) m
  rw [take_sum hw] at p
  exact p
/-- the levels of the nodes -/
def Lev (vals nd ws : List Int) (dl : Int) : Prop := ∀ (j : Nat) (v : Int), nd[j]? = some v → lv vals v = dl - (ws.take j).sum
theorem Lev.at {vals nd ws : List Int} {dl : Int} (h : Lev vals nd ws dl) {j : Nat} (hj : j < nd.length) : lv vals (nd.getD j 0) = dl - (ws.take j).sum :=
  h j _ (by rw [List.getD_eq_getElem?_getD, List.getElem?_eq_getElem hj]; rfl)
theorem step_sum {ws : List Int} {k : Nat} (h : k < ws.length) : (ws.take (k + 1)).sum = (ws.take k).sum + ws.getD k 0 := by
  rw [take_sum1 (List.getElem?_eq_getElem h), List.getD_eq_getElem?_getD, List.getElem?_eq_getElem h]
  rfl
theorem closed_kept {vals nd ws : List Int} {dl : Int} (h : Lev vals nd ws dl) (hn : 0 < nd.length) (hw : nd.length ≤ ws.length) : ((List.range nd.length).map (edge nd ws nd.length)).all (kept vals) = decide (0 ≤ (ws.take nd.length).sum) := by
  rw [Bool.eq_iff_iff, List.all_eq_true, decide_eq_true_iff]
  constructor
  · intro hk
    have e := of_decide_eq_true (hk _ (List.mem_map.mpr ⟨nd.length - 1, List.mem_range.mpr (by omega), rfl⟩))
    unfold edge at e
    simp only at e
    rw [show nd.length - 1 + 1 = nd.length by omega, Nat.mod_self, h.at (by omega), h.at hn, List.take_zero] at e
    have := step_sum (ws := ws) (k := nd.length - 1) (by omega)
    rw [show nd.length - 1 + 1 = nd.length by omega] at this
    simp only [List.sum_nil] at e
    omega
  · intro hs d hd
    obtain ⟨k, hk, rfl⟩ := List.mem_map.mp hd
    have hk := List.mem_range.mp hk
    unfold kept edge
    simp only
    rw [decide_eq_true_iff, h.at hk]
    have st := step_sum (ws := ws) (k := k) (by omega)
    by_cases e : k + 1 = nd.length
    · rw [e, Nat.mod_self, h.at hn, List.take_zero]
      rw [e] at st
      simp only [List.sum_nil]
      omega
    · rw [Nat.mod_eq_of_lt (by omega), h.at (by omega)]
      omega
theorem open_kept {row vals nd ws : List Int} {dl s : Int} {m : Nat} (h : Lev vals nd ws dl) (hm : 0 < m) (hl : nd.length = m + 1) (hw : m ≤ ws.length) (hr : ∀ j, j ≤ m → lv row (nd.getD j 0) = lv vals (nd.getD j 0) + if j = m then s else 0) :
    ((List.range m).map (edgeO nd ws)).all (kept row) = decide (0 ≤ s) := by
  rw [Bool.eq_iff_iff, List.all_eq_true, decide_eq_true_iff]
  constructor
  · intro hk
    have e := of_decide_eq_true (hk _ (List.mem_map.mpr ⟨m - 1, List.mem_range.mpr (by omega), rfl⟩))
    unfold edgeO at e
    simp only at e
    rw [show m - 1 + 1 = m by omega, hr _ (by omega), hr _ (Nat.le_refl _), if_pos rfl, if_neg (by omega), h.at (by omega), h.at (by omega)] at e
    have := step_sum (ws := ws) (k := m - 1) (by omega)
    rw [show m - 1 + 1 = m by omega] at this
    omega
  · intro hs d hd
    obtain ⟨k, hk, rfl⟩ := List.mem_map.mp hd
    have hk := List.mem_range.mp hk
    unfold kept edgeO
    simp only
    rw [decide_eq_true_iff, hr _ (by omega), hr _ (by omega), h.at (by omega), h.at (by omega), if_neg (by omega)]
    have st := step_sum (ws := ws) (k := k) (by omega)
    split <;> omega
theorem edge_in {nd ws : List Int} {m k M : Nat} (hin : ∀ x ∈ nd, 0 ≤ x ∧ x ≤ M) (hk : k < nd.length) (hm : m ≤ nd.length) (h0 : 0 < m) : InR M (edge nd ws m k) := by
  have g : ∀ i, i < nd.length → 0 ≤ nd.getD i 0 ∧ nd.getD i 0 ≤ M := fun i hi => by
    rw [List.getD_eq_getElem?_getD, List.getElem?_eq_getElem hi]
    exact hin _ (List.getElem_mem hi)
  have h2 := Nat.mod_lt (k + 1) h0
  exact ⟨(g k hk).1, (g k hk).2, (g _ (by omega)).1, (g _ (by omega)).2⟩
theorem edgeO_in {nd ws : List Int} {k M : Nat} (hin : ∀ x ∈ nd, 0 ≤ x ∧ x ≤ M) (hk : k + 1 < nd.length) : InR M (edgeO nd ws k) := by
  have g : ∀ i, i < nd.length → 0 ≤ nd.getD i 0 ∧ nd.getD i 0 ≤ M := fun i hi => by
    rw [List.getD_eq_getElem?_getD, List.getElem?_eq_getElem hi]
    exact hin _ (List.getElem_mem hi)
  exact ⟨(g k (by omega)).1, (g k (by omega)).2, (g _ hk).1, (g _ hk).2⟩
/-- a chain of what was placed -/
theorem ring_told {ds : List Df} {ns : List Int} {es : List Df} {u s : Int} (r : Nat) (hr : r < ns.length) (hn : ∀ n ∈ ns, 0 ≤ n ∧ n < ds.length) (he : ns.map (dsAt ds) = es) (p : Path es u u s) : ringB ds (ns.drop r ++ ns.take r) = decide (s < 0) := by
  rw [← he] at p
  obtain ⟨m, p2⟩ := path_rot r p
  rw [← List.map_drop, ← List.map_take, ← List.map_append] at p2
  have e := csum_path (ds := ds) (ns := ns.drop r ++ ns.take r) (fun n h => hn n (by
    rcases List.mem_append.mp h with h | h
    · exact List.mem_of_mem_drop h
    · exact List.mem_of_mem_take h)) p2 (fun e => by
      have := congrArg List.length e
      rw [List.length_append, List.length_drop] at this
      simp only [List.length_nil] at this
      omega)
  rw [ringB_some e]
  simp
theorem mem_placed {ds : List Df} {ns : List Int} {es : List Df} (hn : ∀ n ∈ ns, 0 ≤ n ∧ n < ds.length) (he : ns.map (dsAt ds) = es) : ∀ d ∈ es, d ∈ ds := by
  intro d hd
  rw [← he] at hd
  obtain ⟨n, h, rfl⟩ := List.mem_map.mp hd
  have := hn n h
  unfold dsAt
  rw [List.getD_eq_getElem?_getD, List.getElem?_eq_getElem (by omega)]
  exact List.getElem_mem _
theorem all_path {ds es : List Df} {row : List Int} {u z s : Int} (hs : ∀ d ∈ es, d ∈ ds) (p : Path es u z s) (h : ds.all (kept row) = true) : lv row u - lv row z ≤ s :=
  kept_path p fun d hd => List.all_eq_true.mp h d (hs d hd)
end K15
namespace K15
open PySem PySem.Spec PyProof.Rows L2 Wy WN WQ WS WC WE

-- WIDE
section
variable {P : Program} {w : World} {K : PySem.W.Frag} {mg : Str → Option Value} {base : Heap}
theorem ok_law (T : Tx K mg) {f : Addr} {fd : FuncData} (F : FunD K "law" "law" (defArgs s_law) (defBody s_law) (defScope s_law) [] [] f fd) : FnOk P w K mg base CX0 4 f fd ["script"] (spLaw K) := by
  refine fn_of2 (N := n_law) F sc_law (fun vs H Q E h => ?_) (fun f cdv A outer s H vs Q E hr h => ?_)
  · obtain ⟨a, ns, rfl, _⟩ := h
    rfl
  · obtain ⟨a0, zs, rfl, hS, hl, q⟩ := h
    refine ⟨_, (pss_cons (ps_asg (C8.pe_c (k_law_draws T) hr (by first | decide | omega) (by rfl) (pa_cons (pv 0) (pa_cons pe_int (pa_cons (pe_lst (pa_cons pe_int (pa_cons pe_int (pa_cons pe_int (pa_cons pe_int (pa_cons pe_int (pa_cons pe_int pa_nil))))))) pa_nil)))) (pg_name (i := 1) sc_law.nd rfl (Or.inl rfl))) (pss_cons (ps_asg (pe_op op_add3 pe_int (pe_ix (ix_seq : IxR _ (rIx K)) (pv 1) pe_int (fun _ _ => rfl))) (pg_name (i := 2) sc_law.nd rfl (Or.inl rfl))) (pss_cons (ps_asg (C8.pe_c (k_law_picked T) hr (by first | decide | omega) (by rfl) (pa_cons (C8.pe_c (k_law_draws T) hr (by first | decide | omega) (by rfl) (pa_cons (pv 0) (pa_cons pe_int (pa_cons (pe_lc (own := [("k", 18)]) (g := gName 18) (tt := tYes) (by rfl) sc_law.nd (pi_range1 (by rfl) T.z_range (pa_cons (pe_op op_add3 pe_int (pe_ix (ix_seq : IxR _ (rIx K)) (pv 1) pe_int (fun _ _ => rfl))) pa_nil)) (blkOk_by (own := [("k", 18)]) (N := n_law) (sc := defScope s_law) (by decide +kernel)) (fun _ _ _ _ _ => pg_name (i := 18) sc_law.nd rfl (Or.inl rfl)) (fun _ _ _ _ _ => pts_nil) (fun _ _ _ _ _ => pe_int)) pa_nil)))) (pa_cons (pv 2) pa_nil))) (pg_name (i := 3) sc_law.nd rfl (Or.inr rfl))) (pss_cons (ps_asg (pe_lc (own := [("draw", 17)]) (g := gName 17) (tt := tYes) (by rfl) sc_law.nd (pi_list (C8.pe_c (k_law_draws T) hr (by first | decide | omega) (by rfl) (pa_cons (pv 0) (pa_cons pe_int (pa_cons (pe_lc (own := [("k", 18)]) (g := gName 18) (tt := tYes) (by rfl) sc_law.nd (pi_range1 (by rfl) T.z_range (pa_cons pe_int pa_nil)) (blkOk_by (own := [("k", 18)]) (N := n_law) (sc := defScope s_law) (by decide +kernel)) (fun _ _ _ _ _ => pg_name (i := 18) sc_law.nd rfl (Or.inl rfl)) (fun _ _ _ _ _ => pts_nil) (fun _ _ _ _ _ => (pe_op op_pow pe_int pe_int))) pa_nil)))) : PI _ _ _ (iList K _)) (blkOk_by (own := [("draw", 17)]) (N := n_law) (sc := defScope s_law) (by decide +kernel)) (fun _ _ _ _ _ => pg_name (i := 17) sc_law.nd rfl (Or.inl rfl)) (fun _ _ _ _ _ => pts_nil) (fun _ _ _ _ _ => (C8.pe_c (k_law_weight T) hr (by first | decide | omega) (by rfl) (pa_cons (pv 17) pa_nil)))) (pg_name (i := 4) sc_law.nd rfl (Or.inr rfl))) (pss_cons (ps_asg (C8.pe_c (k_law_differences T) hr (by first | decide | omega) (by rfl) (pa_cons (pv 0) (pa_cons pe_int (pa_cons (pe_ix (ix_seq : IxR _ (rIx K)) (pv 1) pe_int (fun _ _ => rfl)) (pa_cons (pv 2) pa_nil))))) (pg_name (i := 5) sc_law.nd rfl (Or.inl rfl))) (pss_cons (ps_asg (pe_callB (call_len2 : CallR _ _ (rLn K)) (by rfl) T.z_len (by decide +kernel) (pa_cons (pv 3) pa_nil)) (pg_name (i := 6) sc_law.nd rfl (Or.inr rfl))) (pss_cons (ps_if (pt_cmpR (op_eq2 hr.units : OpR _ _ (rEq2 K)) (pe_ix (ix_seq : IxR _ (rIx K)) (pv 1) pe_int (fun _ _ => rfl)) pe_int (nomark _)) (pss_cons (ps_asg (pe_ix (ix_seq : IxR _ (rIx K)) (pe_lst (pa_cons (pe_un un_neg pe_int) (pa_cons pe_int (pa_cons pe_int (pa_cons (pe_un un_neg pe_int) (pa_cons (pe_ix (ix_seq : IxR _ (rIx K)) (pv 4) pe_int (fun _ _ => rfl)) (pa_cons (pe_un un_neg pe_int) (pa_cons pe_int pa_nil)))))))) (pe_ix (ix_seq : IxR _ (rIx K)) (pv 1) pe_int (fun _ _ => rfl)) (fun _ _ => rfl)) (pg_name (i := 7) sc_law.nd rfl (Or.inl rfl))) (pss_cons (ps_asg (pe_op op_sub (pv 7) (pe_callC cc_sum (by rfl) T.z_sum (by decide +kernel) (pa_cons (pe_slice (sl_2 : SlR _ (rSl2 K)) (pv 4) po_none (po_some (pe_op op_sub (pv 6) pe_int))) pa_nil))) (pg_sub (pv 4) (pe_op op_sub (pv 6) pe_int) set_list)) (pss_cons (ps_setLc (i := 8) (own := [("k", 18)]) (g := gName 18) (tt := tYes) (by rfl) sc_law.nd rfl rfl (sw_true rfl rfl rfl (by decide +kernel)) (pi_range1 (by rfl) T.z_range (pa_cons (pv 6) pa_nil)) (blkOk_by (own := [("k", 18)]) (N := n_law) (sc := defScope s_law) (by decide +kernel)) (fun _ _ _ _ _ => pg_name (i := 18) sc_law.nd rfl (Or.inl rfl)) (fun _ _ _ _ _ => pts_nil) (fun _ _ _ _ _ => (pe_tup (pa_cons (pe_ix (ix_seq : IxR _ (rIx K)) (pv 3) (pv 18) (fun _ _ => rfl)) (pa_cons (pe_ix (ix_seq : IxR _ (rIx K)) (pv 3) (pe_op op_mod (pe_op op_add3 (pv 18) pe_int) (pv 6)) (fun _ _ => rfl)) (pa_cons (pe_ix (ix_seq : IxR _ (rIx K)) (pv 4) (pv 18) (fun _ _ => rfl)) pa_nil)))))) (pss_cons (ps_asg (C8.pe_c (k_law_placed T) hr (by first | decide | omega) (by rfl) (pa_cons (pv 0) (pa_cons (pv 8) (pa_cons (pv 5) pa_nil)))) (pg_tup (by rfl) (pgs_cons (pg_name (i := 9) sc_law.nd rfl (Or.inl rfl)) (pgs_cons (pg_name (i := 10) sc_law.nd rfl (Or.inl rfl)) pgs_nil)) : PG _ _ (gTup K _ _))) (pss_cons (ps_asg (pe_op op_mod (pe_callTy call_int2 (by rfl) T.z_int (by decide +kernel) (pa_cons (pe_ix (ix_seq : IxR _ (rIx K)) (pv 1) pe_int (fun _ _ => rfl)) pa_nil)) (pv 6)) (pg_name (i := 11) sc_law.nd rfl (Or.inl rfl))) (pss_cons (ps_if (pt_not (pt_tr (C8.pe_c (k_law_tells T) hr (by first | decide | omega) (by rfl) (pa_cons (C8.pe_c (k_is_ring T) hr (by first | decide | omega) (by rfl) (pa_cons (pv 9) (pa_cons (pe_op op_add3 (pe_slice (sl_2 : SlR _ (rSl2 K)) (pv 10) (po_some (pv 11)) po_none) (pe_slice (sl_2 : SlR _ (rSl2 K)) (pv 10) po_none (po_some (pv 11)))) pa_nil))) (pa_cons (pe_cmpR op_lt (pv 7) pe_int (nomark _)) pa_nil))) : PT _ _ (tTr K _))) (pss_one (ps_ret pe_bl)) pss_nil) (pss_cons (ps_asg (C8.pe_c (k_law_tight T) hr (by first | decide | omega) (by rfl) (pa_cons (pv 3) (pa_cons (pv 4) (pa_cons (pv 2) pa_nil)))) (pg_name (i := 12) sc_law.nd rfl (Or.inl rfl))) (pss_cons (ps_if (pt_not (pt_tr (C8.pe_c (k_law_tells T) hr (by first | decide | omega) (by rfl) (pa_cons (C8.pe_c (k_keeps T) hr (by first | decide | omega) (by rfl) (pa_cons (pe_callTy (call_lst : CallR _ _ (rLst K)) (by rfl) T.z_list (by decide +kernel) (pa_cons (pv 8) pa_nil)) (pa_cons (pe_callTy (call_lst : CallR _ _ (rLst K)) (by rfl) T.z_list (by decide +kernel) (pa_cons (pv 12) pa_nil)) pa_nil))) (pa_cons (pe_cmpR op_ge (pv 7) pe_int (nomark _)) pa_nil))) : PT _ _ (tTr K _))) (pss_one (ps_ret pe_bl)) pss_nil) (pss_cons (ps_for PassesOwn.never rfl (pi_list (C8.pe_c (k_law_rows T) hr (by first | decide | omega) (by rfl) (pa_cons (pv 0) (pa_cons (pv 12) (pa_cons (pe_ix (ix_seq : IxR _ (rIx K)) (pv 3) (pv 11) (fun _ _ => rfl)) pa_nil)))) : PI _ _ _ (iList K _)) (pg_name (i := 13) sc_law.nd rfl (Or.inl rfl)) (pss_one (ps_if (PW.pt (pw_and (pt_cmpR op_lt (pv 7) pe_int (nomark _)) (pw_and1 (pt_cmpR op_notBl (C8.pe_c (k_keeps T) hr (by first | decide | omega) (by rfl) (pa_cons (pv 9) (pa_cons (pv 13) pa_nil))) pe_bl (nomark _))))) (pss_one (ps_ret pe_bl)) pss_nil))) (pss_one (ps_ret pe_bl))))))))))) pss_nil) (pss_cons (ps_asg (pe_op op_add3 (pe_lst (pa_cons pe_int pa_nil)) (pe_lc (own := [("node", 19)]) (g := gName 19) (tt := tTest _) (by rfl) sc_law.nd (pi_list (pv 3) : PI _ _ _ (iList K _)) (blkOk_by (own := [("node", 19)]) (N := n_law) (sc := defScope s_law) (by decide +kernel)) (fun _ _ _ _ _ => pg_name (i := 19) sc_law.nd rfl (Or.inl rfl)) (fun _ _ _ _ _ => (pts_one (pt_cmpR op_gt (pv 19) pe_int (nomark _)))) (fun _ _ _ _ _ => (pv 19)))) (pg_name (i := 3) sc_law.nd rfl (Or.inr rfl))) (C8.pss_cut (ps_if (pt_cmpR op_lt (pe_callB (call_len2 : CallR _ _ (rLn K)) (by rfl) T.z_len (by decide +kernel) (pa_cons (pv 3) pa_nil)) pe_int (nomark _)) (pss_one (ps_asg (pe_lst (pa_cons pe_int (pa_cons pe_int pa_nil))) (pg_name (i := 3) sc_law.nd rfl (Or.inr rfl)))) pss_nil) (pss_cons (ps_asg (pe_op op_sub (pe_callB (call_len2 : CallR _ _ (rLn K)) (by rfl) T.z_len (by decide +kernel) (pa_cons (pv 3) pa_nil)) pe_int) (pg_name (i := 6) sc_law.nd rfl (Or.inr rfl))) (pss_cons (ps_setLc (i := 8) (own := [("k", 18)]) (g := gName 18) (tt := tYes) (by rfl) sc_law.nd rfl rfl (sw_true rfl rfl rfl (by decide +kernel)) (pi_range1 (by rfl) T.z_range (pa_cons (pv 6) pa_nil)) (blkOk_by (own := [("k", 18)]) (N := n_law) (sc := defScope s_law) (by decide +kernel)) (fun _ _ _ _ _ => pg_name (i := 18) sc_law.nd rfl (Or.inl rfl)) (fun _ _ _ _ _ => pts_nil) (fun _ _ _ _ _ => (pe_tup (pa_cons (pe_ix (ix_seq : IxR _ (rIx K)) (pv 3) (pv 18) (fun _ _ => rfl)) (pa_cons (pe_ix (ix_seq : IxR _ (rIx K)) (pv 3) (pe_op op_add3 (pv 18) pe_int) (fun _ _ => rfl)) (pa_cons (pe_ix (ix_seq : IxR _ (rIx K)) (pv 4) (pv 18) (fun _ _ => rfl)) pa_nil)))))) (pss_cons (ps_asg (C8.pe_c (k_law_placed T) hr (by first | decide | omega) (by rfl) (pa_cons (pv 0) (pa_cons (pv 8) (pa_cons (pv 5) pa_nil)))) (pg_tup (by rfl) (pgs_cons (pg_name (i := 9) sc_law.nd rfl (Or.inl rfl)) (pgs_cons (pg_name (i := 10) sc_law.nd rfl (Or.inl rfl)) pgs_nil)) : PG _ _ (gTup K _ _))) (pss_cons (ps_asg (C8.pe_c (k_floor_value T) hr (by first | decide | omega) (by rfl) (pa_cons (pv 9) (pa_cons (pv 10) (pa_cons (pe_ix (ix_seq : IxR _ (rIx K)) (pv 3) (pv 6) (fun _ _ => rfl)) pa_nil)))) (pg_name (i := 14) sc_law.nd rfl (Or.inl rfl))) (pss_cons (ps_if (PW.pt (pw_or (pt_not (pt_tr (C8.pe_c (k_law_is_integer T) hr (by first | decide | omega) (by rfl) (pa_cons (pv 14) pa_nil)) : PT _ _ (tTr K _))) (pw_or1 (pt_cmpR (op_ne2 hr.units : OpR _ _ (rNe2 K)) (pv 14) (pe_un un_neg (pe_callC cc_sum (by rfl) T.z_sum (by decide +kernel) (pa_cons (pe_slice (sl_2 : SlR _ (rSl2 K)) (pv 4) po_none (po_some (pv 6))) pa_nil))) (nomark _))))) (pss_one (ps_ret pe_bl)) pss_nil) (pss_cons (ps_asg (C8.pe_c (k_law_tight T) hr (by first | decide | omega) (by rfl) (pa_cons (pv 3) (pa_cons (pv 4) (pa_cons (pv 2) pa_nil)))) (pg_name (i := 12) sc_law.nd rfl (Or.inl rfl))) (pss_cons (ps_asg (C8.pe_c (k_law_rows T) hr (by first | decide | omega) (by rfl) (pa_cons (pv 0) (pa_cons (pv 12) (pa_cons (pe_ix (ix_seq : IxR _ (rIx K)) (pv 3) (pv 6) (fun _ _ => rfl)) pa_nil)))) (pg_name (i := 15) sc_law.nd rfl (Or.inl rfl))) (pss_cons (ps_if (PW.pt (pw_or (pt_cmpR op_notBl (C8.pe_c (k_keeps T) hr (by first | decide | omega) (by rfl) (pa_cons (pv 8) (pa_cons (pe_ix (ix_seq : IxR _ (rIx K)) (pv 15) pe_int (fun _ _ => rfl)) pa_nil))) pe_bl (nomark _)) (pw_or (pt_cmpR (op_ne2 hr.units : OpR _ _ (rNe2 K)) (pe_ix (ix_seq : IxR _ (rIx K)) (pe_ix (ix_seq : IxR _ (rIx K)) (pv 15) pe_int (fun _ _ => rfl)) (pe_op op_sub (pe_ix (ix_seq : IxR _ (rIx K)) (pv 3) (pv 6) (fun _ _ => rfl)) pe_int) (fun _ _ => rfl)) (pv 14) (nomark _)) (pw_or1 (pt_cmpR op_notBl (C8.pe_c (k_keeps T) hr (by first | decide | omega) (by rfl) (pa_cons (pv 8) (pa_cons (pe_ix (ix_seq : IxR _ (rIx K)) (pv 15) pe_int (fun _ _ => rfl)) pa_nil))) pe_bl (nomark _)))))) (pss_one (ps_ret pe_bl)) pss_nil) (pss_cons (ps_if (pt_cmpR op_notBl (C8.pe_c (k_keeps T) hr (by first | decide | omega) (by rfl) (pa_cons (pv 8) (pa_cons (pe_ix (ix_seq : IxR _ (rIx K)) (pv 15) pe_int (fun _ _ => rfl)) pa_nil))) pe_bl (nomark _)) (pss_one (ps_ret pe_bl)) pss_nil) (pss_cons (ps_for PassesOwn.never rfl (pi_list (pv 15) : PI _ _ _ (iList K _)) (pg_name (i := 13) sc_law.nd rfl (Or.inl rfl)) (pss_cons (ps_asg (C8.pe_c (k_keeps T) hr (by first | decide | omega) (by rfl) (pa_cons (pv 9) (pa_cons (pv 13) pa_nil))) (pg_name (i := 16) sc_law.nd rfl (Or.inl rfl))) (pss_one (ps_if (PW.pt (pw_and (pt_cmpR op_notBl (pv 16) pe_bl (nomark _)) (pw_and1 (PW.pt (pw_or (pt_cmpR op_notBl (pv 16) pe_bl (nomark _)) (pw_or1 (pt_cmpR op_lt (pe_ix (ix_seq : IxR _ (rIx K)) (pv 13) (pe_op op_sub (pe_ix (ix_seq : IxR _ (rIx K)) (pv 3) (pv 6) (fun _ _ => rfl)) pe_int) (fun _ _ => rfl)) (pv 14) (nomark _)))))))) (pss_one (ps_ret pe_bl)) pss_nil)))) (pss_one (ps_ret pe_bl))))))))))))))))))))), ?_⟩
    walk_at "xx"
    refine ⟨a0, _, zs, [2, 7, 8, 5, 7, 1000], 0, rfl, by walk_at "sq", by walk_at "sq", szOk_of (by decide +kernel), fun p H1 ds s1 np e1 hd => ?_⟩
    obtain ⟨d0, _, rfl, l0, u0, hd⟩ := hd.inv
    obtain ⟨d1, _, rfl, l1, u1, hd⟩ := hd.inv
    obtain ⟨d2, _, rfl, l2, u2, hd⟩ := hd.inv
    obtain ⟨d3, _, rfl, l3, u3, hd⟩ := hd.inv
    obtain ⟨d4, _, rfl, l4, u4, hd⟩ := hd.inv
    obtain ⟨d5, _, rfl, l5, u5, hd⟩ := hd.inv
    obtain rfl := hd.nil_inv
    clear hd
    have e1 : H1 p = some (.lst [.int d0, .int d1, .int d2, .int d3, .int d4, .int d5]) := e1
    have hS1 : SqL K H1 a0 (zs.map V.int) := by walk_at "sq"
    obtain ⟨d3, rfl⟩ : ∃ m : Nat, d3 = m := ⟨d3.toNat, by omega⟩
    clear s1
    walk_at "xx"
    obtain ⟨M, hM⟩ : ∃ m : Nat, 1 + d1 = m := ⟨(1 + d1).toNat, by omega⟩
    have hM1 : 1 ≤ M := by omega
    have hM7 : M ≤ 7 := by omega
    rw [hM]
    walk_at "xx"
    refine c_constI (c := 1000) (fun _ _ _ h => ?_) (by omega) (fun _ => rfl) fun D H2 nD s2 e2 => ?_
    · walk_at "xx"
      exact h
    walk_at "xx"
    refine ⟨a0, D, zs, _, 1, rfl, s2.seq hS1, lst_of e2, ⟨by rw [List.length_replicate]; omega, fun s hs => by rw [(List.mem_replicate.mp hs).2]; decide +kernel⟩, fun dp H3 dr s3 n3 e3 hd => ?_⟩
    have ld := hd.len
    rw [List.length_replicate] at ld
    walk_at "xx"
    refine ⟨dp, dr, M, rfl, e3, by omega, by omega, fun ap H4 nd s4 n4 e4 nn hin hne hln => ?_⟩
    have ne : nd ≠ [] := hne fun e => by
      rw [e] at ld
      simp only [List.length_nil] at ld
      omega
    have lp : 0 < nd.length := List.length_pos_iff.mpr ne
    have l8 : nd.length ≤ 8 := by omega
    have S4 : Same H1 H4 := s2.trans (s3.trans s4)
    have e14 := S4 _ _ e1
    have hS4 := S4.seq hS1
    clear hne hln hd ld e3 n3 s2 s3 s4 e2 nD S4 hS1 e1
    walk_at "xx"
    refine c_constI (c := 10 ^ 42) (fun _ _ _ h => ?_) (by omega) (fun _ => rfl) fun D H5 nD s5 e5 => ?_
    · walk_at "xx"
      exact h
    walk_at "xx"
    refine ⟨a0, D, zs, _, 2, rfl, s5.seq hS4, lst_of e5, ⟨by rw [List.length_replicate]; omega, fun s hs => by rw [(List.mem_replicate.mp hs).2]; decide +kernel⟩, fun dp2 H6 dr2 s6 n6 e6 hd => ?_⟩
    have ld2 := hd.len
    rw [List.length_replicate, show (9 : Int).toNat = 9 from rfl] at ld2
    walk_at "xx"
    refine c_ints (lst_of e6) (fun x H N hN => ?_) (by omega) (fun _ => rfl) fun wp H7 ws nW s7 l7 e7 => ?_
    · walk_at "xx"
      refine ⟨x, rfl, fun r => ?_⟩
      exact hN r
    have lw : ws.length = 9 := by omega
    have S47 : Same H4 H7 := s5.trans (s6.trans s7)
    have nW4 : H4 wp = none := (s5.trans s6).free nW
    clear hd ld2 e6 n6 s5 s6 s7 nD e5 l7 nW
    walk_at "xx"
    refine ⟨a0, zs, 3, d3, M, rfl, S47.seq hS4, by omega, by omega, fun op uo H8 os s8 n8 e8 t8 lo ho => ?_⟩
    have S48 := S47.trans s8
    have e78 := s8 _ _ e7
    have nwo : op ≠ wp := (ne_of_none e7 n8).symm
    clear S47 s8 e7
    walk_at "xx"
    refine b_lenL (lst_of (S48 _ _ e4)) ?_
    rw [List.length_map]
    walk_at "xx"
    have e18 := S48 _ _ e14
    refine iteI (fun ed => ?_) (fun ed => ?_)
    · clear u0 l0
      walk_at "xx"
      refine ix_int (lst_of e78) (by omega) (by omega) fun w8 g8 => ?_
      walk_at "xx"
      rename_i tp H9 n9 s9 e9
      refine ix_int (xs := [-1, 0, 1, -2, w8, -1, 5]) (lst_of e9) l4 (by simpa using u4) fun t gt => ?_
      clear gt
      walk_at "xx"
      rename_i cp H10 n10 s10 e10
      rw [cutTo _ (by omega), ← List.map_take] at e10
      refine b_sum (lst_of e10) ?_
      have S10 := s9.trans s10
      have cn : ((nd.length : Int) - 1).toNat = nd.length - 1 := by omega
      rw [cn]
      walk_at "xx"
      refine st_L (S10 _ _ e78) (j := nd.length - 1) (by rw [List.length_map, ← cn]; exact ixN_of (by omega) (by omega)) fun H11 c11 e11 => ?_
      rw [← List.map_set] at e11
      obtain ⟨ws', hws⟩ : ∃ ws', ws' = ws.set (nd.length - 1) (t - (ws.take (nd.length - 1)).sum) := ⟨_, rfl⟩
      rw [← hws] at e11
      have lw' : ws'.length = 9 := by rw [hws, List.length_set]; exact lw
      have sum' : (ws'.take nd.length).sum = t := by
        have := step_sum (ws := ws') (k := nd.length - 1) (by omega)
        rw [show nd.length - 1 + 1 = nd.length by omega] at this
        rw [this, hws, List.take_set_of_le (by omega), List.getD_eq_getElem?_getD, List.getElem?_set_self (by omega)]
        show _ + (t - _) = t
        omega
      clear hws e18
      have S11 : Same H4 H11 := c11.same (S48.trans S10) nW4
      have eo : H11 op = some (.lst uo) := c11.at (S10 _ _ e8) nwo
      have to : TpAll H11 uo (os.map dfD) := t8.tk (S10.tk.trans (c11.tk (S10 _ _ e78)))
      have ea := S11 _ _ e4
      have e1 := S11 _ _ e14
      have hS := S11.seq hS4
      clear c11 S10 s9 s10 e9 e10 n9 n10 e78 S48 S11 e8 t8 e4 e14 hS4 n8 g8 cn n4 nW4 nwo lw ws
      walk_at "xx"
      refine c_tps (fun j => dfD (edge nd ws' nd.length j)) (fun j H1 N hj s1 hN => ?_) (by omega) (fun _ => rfl) fun ep' H12 ue nE s12 e12 t12 => ?_
      · rw [Int.zero_add]
        have m0 := Int.emod_nonneg ((j : Int) + 1) (show (nd.length : Int) ≠ 0 by omega)
        have m1 := Int.emod_lt_of_pos ((j : Int) + 1) (show (0 : Int) < nd.length by omega)
        walk_at "xx"
        refine ix_int (lst_of (s1 _ _ ea)) (by omega) (by omega) fun x gx => ?_
        walk_at "xx"
        refine ix_int (lst_of (s1 _ _ ea)) m0 m1 fun y gy => ?_
        walk_at "xx"
        refine ix_int (lst_of (s1 _ _ e11)) (by omega) (by omega) fun z gz => ?_
        walk_at "xx"
        rename_i tp H2 n2 s2 e2
        refine hN _ _ s2 (.tup e2 ?_)
        have : edge nd ws' nd.length j = (x, y, z) := by
          unfold edge
          rw [Int.toNat_natCast] at gx gz
          rw [show (((j : Int) + 1) % nd.length).toNat = (j + 1) % nd.length by rw [show ((j : Int) + 1) = ((j + 1 : Nat) : Int) by omega, ← Int.natCast_emod, Int.toNat_natCast]] at gy
          rw [getD_of gx, getD_of gy, getD_of gz]
        rw [this]
        walk_at "tp"
      rw [Int.toNat_natCast] at t12
      have t12 : TpAll H12 ue (((List.range nd.length).map (edge nd ws' nd.length)).map dfD) := by rw [List.map_map]; exact t12
      obtain ⟨es, hes⟩ : ∃ es, es = (List.range nd.length).map (edge nd ws' nd.length) := ⟨_, rfl⟩
      rw [← hes] at t12
      have le : es.length = nd.length := by rw [hes, List.length_map, List.length_range]
      have hpath : Path es (nd.getD 0 0) (nd.getD 0 0) t := by
        have := closed_path (nd := nd) (ws := ws') lp (by omega)
        rw [sum', ← hes] at this
        exact this
      have hein : ∀ d ∈ es, InR M d := fun d hd => by
        rw [hes] at hd
        obtain ⟨k, hk, rfl⟩ := List.mem_map.mp hd
        exact edge_in hin (List.mem_range.mp hk) (Nat.le_refl _) lp
      walk_at "xx"
      refine ⟨a0, ep', op, zs, ue, uo, es, os, rfl, s12.seq hS, e12, t12, s12 _ _ eo, to.tk s12.tk, by omega, by omega, fun tp pp qp H13 up ds ns s13 e13 f13 t13 g13 ln hns hmap hdin hdl => ?_⟩
      have S13 := s12.trans s13
      have e1 := S13 _ _ e1
      have ea := S13 _ _ ea
      have ew := S13 _ _ e11
      have hS := S13.seq hS
      have ee := s13 _ _ e12
      have te := t12.tk s13.tk
      clear S13 s12 s13 e12 t12 nE e11 eo to
      have hpin : ∀ d ∈ ds, InR M d := fun d hd => (hdin d hd).elim (hein d) (ho d)
      have lu := t13.length
      rw [List.length_map] at lu
      have at0 := Int.emod_nonneg d5 (show (nd.length : Int) ≠ 0 by omega)
      have at1 := Int.emod_lt_of_pos d5 (show (0 : Int) < nd.length by omega)
      walk_at "xx"
      rename_i cp H14 n14 s14 e14 cq H15 n15 s15 e15
      generalize d5 % (nd.length : Int) = r at at0 at1 e14 e15 ⊢
      rw [cutFrom _ at0] at e14
      rw [cutTo _ at0] at e15
      refine o_addL (s15 _ _ e14) e15 (by simp only [List.length_drop, List.length_take, List.length_map]; exact lz (by omega)) fun rp H16 n16 s16 e16 => ?_
      rw [← List.map_drop, ← List.map_take, ← List.map_append] at e16
      have S16 := s14.trans (s15.trans s16)
      walk_at "xx"
      refine ⟨pp, rp, up, ds, ns.drop r.toNat ++ ns.take r.toNat, rfl, .inl (lst_of (S16 _ _ f13)), t13.tk S16.tk, .inl (lst_of e16), by omega, by simp only [List.length_append, List.length_drop, List.length_take]; omega, fun H17 s17 => ?_⟩
      rw [ring_told r.toNat (by omega) hns hmap hpath]
      walk_at "xx"
      refine ⟨_, _, rfl, ?_⟩
      walk_at "xx"
      refine iteFF (by simp) ?_
      have S17 := S16.trans s17
      have e1 := S17 _ _ e1
      have ea := S17 _ _ ea
      have ew := S17 _ _ ew
      have hS := S17.seq hS
      have ee := S17 _ _ ee
      have te := te.tk S17.tk
      have ep := S17 _ _ f13
      have tp := t13.tk S17.tk
      clear S17 S16 s14 s15 s16 s17 e14 e15 e16 n14 n15 n16 e13 f13 t13 g13
      walk_at "xx"
      refine ⟨ap, wp, nd, ws', M, rfl, ea, ew, by omega, nn, hin, ne, by omega, by omega, fun vp H18 vals dl s18 n18 e18 lv18 hlev => ?_⟩
      walk_at "xx"
      refine ls_new (lst_of (s18 _ _ ee)) fun x1 H19 n19 s19 e19 => ?_
      walk_at "xx"
      refine ls_new (lst_of (s19 _ _ e18)) fun x2 H20 n20 s20 e20 => ?_
      walk_at "xx"
      have S20 := s18.trans (s19.trans s20)
      refine ⟨x1, x2, ue, es, vals, rfl, .inl (lst_of (s20 _ _ e19)), te.tk S20.tk, .inl (lst_of e20), by rw [lv18]; exact hein, by omega, by omega, fun H21 s21 => ?_⟩
      have hk : es.all (kept vals) = decide (0 ≤ t) := by
        rw [hes, closed_kept hlev lp (by omega), sum']
      rw [hk]
      walk_at "xx"
      refine ⟨_, _, rfl, ?_⟩
      walk_at "xx"
      refine iteFF (by simp) ?_
      have S21 := S20.trans s21
      walk_at "xx"
      refine ix_int (lst_of (S21 _ _ ea)) at0 at1 fun n0 gn => ?_
      have hn0 := hin _ (List.mem_of_getElem? gn)
      walk_at "xx"
      refine ⟨a0, vp, zs, vals, n0, rfl, S21.seq hS, (s19.trans (s20.trans s21)) _ _ e18, hn0.1, by omega, by omega, fun rp a1 a2 a3 H22 v3 s22 e22 b1 b2 b3 l3 => ?_⟩
      have S22 := S21.trans s22
      have ep := S22 _ _ ep
      have tp := tp.tk S22.tk
      have ev := (s19.trans (s20.trans (s21.trans s22))) _ _ e18
      clear S22 S21 S20 s22 s21 s20 s19 s18 e18 e19 e20 n18 n19 n20 te ee hS ew ea e1
      have rows : ∀ x ∈ [V.ref vp, .ref a1, .ref a2, .ref a3], ∃ b, x = .ref b ∧ ∃ row : List Int, H22 b = some (.lst (row.map V.int)) ∧ row.length = M := by
        simp only [List.mem_cons, List.not_mem_nil, or_false]
        rintro x (rfl | rfl | rfl | rfl)
        · exact ⟨_, rfl, _, ev, lv18⟩
        · exact ⟨_, rfl, _, b1, by rw [bump_len]; exact lv18⟩
        · exact ⟨_, rfl, _, b2, by rw [bump_len]; exact lv18⟩
        · exact ⟨_, rfl, _, b3, by omega⟩
      walk_at "xx"
      refine f_list (xs := [V.ref vp, .ref a1, .ref a2, .ref a3]) (fun i σ H' => ∃ z13, σ = [some (.ref a0), some (.ref p), some (.int M), some (.ref ap), some (.ref wp), some (.ref op), some (.int nd.length), some (.int t), some (.ref ep'), some (.ref pp), some (.ref qp), some (.int r), some (.ref vp), z13, none, none, none, none, none, none] ∧ Same H22 H')
        ⟨_, rfl, Same.refl _⟩ (fun i σ H' hi p => ?_) (fun i x σ H23 hx p => ?_) (fun σ H23 p => ?_)
      · obtain ⟨_, rfl, s⟩ := p
        exact lst_of (s _ _ e22)
      · obtain ⟨z13, rfl, s23⟩ := p
        obtain ⟨b, rfl, row, er, lr⟩ := rows x (List.mem_of_getElem? hx)
        walk_at "xx"
        refine iteD (fun ht => ?_) (fun ht => ?_)
        · walk_at "xx"
          refine ⟨pp, b, up, ds, row, rfl, .inl (lst_of (s23 _ _ ep)), tp.tk s23.tk, .inl (lst_of (s23 _ _ er)), by rw [lr]; exact hpin, by omega, by omega, fun H24 s24 => ?_⟩
          have hkf : ds.all (kept row) = false := by
            cases hq : ds.all (kept row) with
            | false => rfl
            | true =>
              have := all_path (mem_placed hns hmap) hpath hq
              omega
          rw [hkf]
          walk_at "xx"
          refine o_ntB ?_
          walk_at "xx"
          exact ⟨_, rfl, s23.trans s24⟩
        · walk_at "xx"
          exact ⟨_, rfl, s23⟩
      · obtain ⟨z13, rfl, s23⟩ := p
        walk_at "xx"
        exact q _
    · clear u0 l0 ed
      have S8 := S48
      have ea8 := S48 _ _ e4
      walk_at "xx"
      rename_i zp H9 n9 s9 e9
      refine c_acc (xs := nd.map V.int) (.inl ⟨rfl, lst_of (s9 _ _ ea8)⟩) (fun i acc _ => acc = ((nd.take i).filter fun x => decide (0 < x)).map V.int) (fun _ _ _ _ _ h => h)
        (fun i acc H hi h => small1000 (by rw [h, List.length_map]; exact Nat.le_trans (List.length_filter_le _ _) (by rw [List.length_take]; omega))) rfl (fun i x H10 acc N M' hx s10 o hN hM => ?_) (fun D H10 ys nD s10 e10 o => ?_)
      · rw [List.getElem?_map] at hx
        obtain ⟨y, gy, rfl⟩ := Option.map_eq_some_iff.mp hx
        have tk : (nd.take (i + 1)) = nd.take i ++ [y] := by rw [List.take_succ, gy]; rfl
        walk_at "xx"
        refine ⟨rfl, ?_⟩
        walk_at "xx"
        refine iteD (fun e => ?_) (fun e => ?_)
        · walk_at "xx"
          refine hN _ _ (Same.refl _) ?_
          rw [o, tk, List.filter_append, List.map_append]
          simp [List.filter, show 0 < y by omega]
        · refine hM _ (Same.refl _) ?_
          rw [o, tk, List.filter_append, List.map_append]
          simp [List.filter, show ¬ 0 < y by omega]
      rw [List.length_map, List.take_length] at o
      rw [o] at e10
      clear o
      walk_at "xx"
      have lf := List.length_filter_le (fun x => decide (0 < x)) nd
      refine o_addL (by walk_at "hp") e10 (by rw [List.length_map, List.length_singleton]; exact lz (by omega)) fun np2 H11 n11 s11 e11 => ?_
      have e11 : H11 np2 = some (.lst ((0 :: nd.filter fun x => decide (0 < x)).map V.int)) := e11
      have S11 : Same H8 H11 := s9.trans (s10.trans s11)
      refine s_cut (fun σ H' => ∃ (np : Addr) (n2 : List Int), σ = [some (.ref a0), some (.ref p), some (.int M), some (.ref np), some (.ref wp), some (.ref op), some (.int nd.length), none, none, none, none, none, none, none, none, none, none, none, none, none] ∧ Same H8 H' ∧ H' np = some (.lst (n2.map V.int)) ∧ n2.Nodup ∧ (∀ x ∈ n2, 0 ≤ x ∧ x ≤ M) ∧ n2[0]? = some 0 ∧ 2 ≤ n2.length ∧ n2.length ≤ 9) ?_ (fun σ H12 p => ?_)
      · walk_at "xx"
        refine b_lenL (lst_of e11) ?_
        rw [List.length_map]
        walk_at "xx"
        refine iteD (fun e => ?_) (fun e => ?_)
        · walk_at "xx"
          rename_i np3 H12 n12 s12 e12
          exact ⟨np3, [0, 1], rfl, S11.trans s12, e12, by decide, by simp only [List.mem_cons, List.not_mem_nil, or_false]; rintro x (rfl | rfl) <;> omega, rfl, by decide, by decide⟩
        · walk_at "xx"
          refine ⟨np2, _, rfl, S11, e11, List.nodup_cons.mpr ⟨fun h => ?_, nn.filter _⟩, fun x hx => ?_, rfl, by omega, by rw [List.length_cons]; omega⟩
          · have := (List.mem_filter.mp h).2
            exact absurd (of_decide_eq_true this) (by omega)
          · rcases List.mem_cons.mp hx with rfl | hx
            · omega
            · exact hin x (List.mem_filter.mp hx).1
      clear s9 s10 s11 e9 e10 e11 n9 n11 nD S11 ea8 e18 lf
      obtain ⟨np, n2, rfl, s12, e12, nn2, hin2, g02, lo2, hi2⟩ := p
      have S12 := S8.trans s12
      have hS := S12.seq hS4
      have ew := s12 _ _ e78
      have eo := s12 _ _ e8
      have to := t8.tk s12.tk
      clear S12 S8 S48 s12 e78 e8 t8 hS4 e4 e14 n8 nW4 nwo hin nn ne n4
      obtain ⟨c, hc⟩ : ∃ c : Nat, n2.length = c + 1 := ⟨n2.length - 1, by omega⟩
      have z0 : n2.getD 0 0 = 0 := getD_of g02
      walk_at "xx"
      refine b_lenL (lst_of e12) ?_
      rw [List.length_map, hc]
      walk_at "xx"
      rw [show ((c + 1 : Nat) : Int) - 1 = (c : Int) by omega]
      walk_at "xx"
      refine c_tps (fun j => dfD (edgeO n2 ws j)) (fun j H1 N hj s1 hN => ?_) (by omega) (fun _ => rfl) fun ep' H13 ue nE s13 e13 t13 => ?_
      · rw [Int.zero_add]
        walk_at "xx"
        refine ix_int (lst_of (s1 _ _ e12)) (by omega) (by omega) fun x gx => ?_
        walk_at "xx"
        refine ix_int (lst_of (s1 _ _ e12)) (by omega) (by omega) fun y gy => ?_
        walk_at "xx"
        refine ix_int (lst_of (s1 _ _ ew)) (by omega) (by omega) fun z gz => ?_
        walk_at "xx"
        rename_i tp H2 n2' s2 e2
        refine hN _ _ s2 (.tup e2 ?_)
        have : edgeO n2 ws j = (x, y, z) := by
          unfold edgeO
          rw [Int.toNat_natCast] at gx gz
          rw [show ((j : Int) + 1).toNat = j + 1 by omega] at gy
          rw [getD_of gx, getD_of gy, getD_of gz]
        rw [this]
        walk_at "tp"
      rw [Int.toNat_natCast] at t13
      have t13 : TpAll H13 ue (((List.range c).map (edgeO n2 ws)).map dfD) := by rw [List.map_map]; exact t13
      obtain ⟨es, hes⟩ : ∃ es, es = (List.range c).map (edgeO n2 ws) := ⟨_, rfl⟩
      rw [← hes] at t13
      have le : es.length = c := by rw [hes, List.length_map, List.length_range]
      obtain ⟨z, hz⟩ : ∃ z, n2[c]? = some z := ⟨_, List.getElem?_eq_getElem (by omega)⟩
      have hzr := hin2 z (List.mem_of_getElem? hz)
      have zpos : 0 < z := by
        have : z ≠ 0 := fun e => by
          rw [e] at hz
          have := nd_inj nn2 hz g02
          omega
        omega
      have hpath : Path es 0 z (ws.take c).sum := by
        have := open_path (nd := n2) (ws := ws) (m := c) (by omega)
        rw [z0, getD_of hz, ← hes] at this
        exact this
      have hein : ∀ d ∈ es, InR M d := fun d hd => by
        rw [hes] at hd
        obtain ⟨k, hk, rfl⟩ := List.mem_map.mp hd
        exact edgeO_in hin2 (by have := List.mem_range.mp hk; omega)
      walk_at "xx"
      refine ⟨a0, ep', op, zs, ue, uo, es, os, rfl, s13.seq hS, e13, t13, s13 _ _ eo, to.tk s13.tk, by omega, by omega, fun tp pp qp H14 up ds ns s14 e14 f14 t14 g14 ln hns hmap hdin hdl => ?_⟩
      have S14 := s13.trans s14
      have en := S14 _ _ e12
      have ew := S14 _ _ ew
      have hS := S14.seq hS
      have ee := s14 _ _ e13
      have te := t13.tk s14.tk
      clear S14 s13 s14 e13 t13 nE e12 eo to
      have hpin : ∀ d ∈ ds, InR M d := fun d hd => (hdin d hd).elim (hein d) (ho d)
      have lu := t14.length
      rw [List.length_map] at lu
      have hcs : csum ds ns = some (0, z, (ws.take c).sum) := csum_path hns (by rw [hmap]; exact hpath) (fun e => by
        rw [e] at ln
        simp only [List.length_nil] at ln
        omega)
      have hfl : floorV ds ns z = some (-(ws.take c).sum) := by rw [floorV_some hcs, if_pos ⟨rfl, rfl⟩]
      walk_at "xx"
      refine ix_int (lst_of en) (by omega) (by omega) fun z' gz' => ?_
      rw [Int.toNat_natCast, hz] at gz'
      cases gz'
      walk_at "xx"
      refine ⟨pp, qp, up, ds, ns, z, rfl, .inl (lst_of f14), t14, .inl (lst_of g14), by omega, by omega, fun H15 s15 => ?_⟩
      rw [hfl]
      generalize hS' : (ws.take c).sum = sm at hpath hcs
      walk_at "xx"
      refine ⟨_, rfl, ?_⟩
      walk_at "xx"
      rename_i cp H16 n16 s16 e16
      rw [cutTo _ (by omega), Int.toNat_natCast, ← List.map_take] at e16
      refine b_sum (lst_of e16) ?_
      rw [hS']
      walk_at "xx"
      refine iteNI (fun e => absurd rfl e) (fun _ => ?_)
      have S16 := s15.trans s16
      have en := S16 _ _ en
      have ew := S16 _ _ ew
      have hS := S16.seq hS
      have ee := S16 _ _ ee
      have te := te.tk S16.tk
      have ep := S16 _ _ f14
      have tp := t14.tk S16.tk
      clear S16 s15 s16 e16 n16 e14 f14 t14 g14
      walk_at "xx"
      refine ⟨np, wp, n2, ws, M, rfl, en, ew, by omega, nn2, hin2, (fun e => by rw [e] at hc; simp at hc), by omega, by omega, fun vp H17 vals dl s17 n17 e17 lv17 hlev => ?_⟩
      walk_at "xx"
      refine ix_int (lst_of (s17 _ _ en)) (by omega) (by omega) fun z' gz' => ?_
      rw [Int.toNat_natCast, hz] at gz'
      cases gz'
      walk_at "xx"
      refine ⟨a0, vp, zs, vals, z, rfl, s17.seq hS, e17, hzr.1, by omega, by omega, fun rp a1 a2 a3 H18 v3 s18 e18 b1 b2 b3 l3 => ?_⟩
      have S18 := s17.trans s18
      have ev := s18 _ _ e17
      have en := S18 _ _ en
      have ee := S18 _ _ ee
      have te := te.tk S18.tk
      have ep := S18 _ _ ep
      have tp := tp.tk S18.tk
      clear S18 s17 s18 e17 n17 hS ew
      have hlv : ∀ s j, j ≤ c → lv (bump vals z s) (n2.getD j 0) = lv vals (n2.getD j 0) + if j = c then s else 0 := fun s j hj => by
        have gj : n2[j]? = some (n2.getD j 0) := by
          rw [List.getD_eq_getElem?_getD, List.getElem?_eq_getElem (by omega)]
          rfl
        have hj2 := hin2 _ (List.mem_of_getElem? gj)
        rw [lv_bump hj2.1 (by omega) (by omega)]
        by_cases e : j = c
        · subst e
          rw [if_pos rfl, if_pos ⟨getD_of hz, zpos⟩]
        · rw [if_neg e, if_neg]
          intro h
          rw [h.1] at gj
          exact e (nd_inj nn2 gj hz)
      have k0 : es.all (kept vals) = true := by
        rw [hes, open_kept (s := 0) hlev (by omega) (by omega) (by omega) (fun j hj => by split <;> omega)]
        rfl
      have k1 : es.all (kept (bump vals z (-1))) = false := by
        rw [hes, open_kept (s := -1) hlev (by omega) (by omega) (by omega) (hlv (-1))]
        rfl
      have k2 : es.all (kept (bump vals z 1)) = true := by
        rw [hes, open_kept (s := 1) hlev (by omega) (by omega) (by omega) (hlv 1)]
        rfl
      have hvz : lv vals z = -sm := by
        have h0 := hlev 0 0 g02
        have h1 := hlev c z hz
        rw [hS'] at h1
        have : lv vals 0 = 0 := rfl
        rw [this, List.take_zero] at h0
        simp only [List.sum_nil] at h0
        omega
      have gvz : ∀ row : List Int, row.length = M → row[(z - 1).toNat]? = some (lv row z) := fun row lr => by
        unfold lv
        obtain ⟨b, rfl⟩ : ∃ b : Nat, z = b + 1 := ⟨z.toNat - 1, by omega⟩
        rw [show ((b : Int) + 1 - 1).toNat = b by omega, show ((b : Int) + 1).toNat = b + 1 by omega, List.getD_eq_getElem?_getD, List.getElem?_cons_succ, List.getElem?_eq_getElem (by omega)]
        rfl
      have rows : ∀ x ∈ [V.ref vp, .ref a1, .ref a2, .ref a3], ∃ b, x = .ref b ∧ ∃ row : List Int, H18 b = some (.lst (row.map V.int)) ∧ row.length = M := by
        simp only [List.mem_cons, List.not_mem_nil, or_false]
        rintro x (rfl | rfl | rfl | rfl)
        · exact ⟨_, rfl, _, ev, lv17⟩
        · exact ⟨_, rfl, _, b1, by rw [bump_len]; exact lv17⟩
        · exact ⟨_, rfl, _, b2, by rw [bump_len]; exact lv17⟩
        · exact ⟨_, rfl, _, b3, by omega⟩
      walk_at "xx"
      refine ⟨ep', vp, ue, es, vals, rfl, .inl (lst_of ee), te, .inl (lst_of ev), by rw [lv17]; exact hein, by omega, by omega, fun H19 s19 => ?_⟩
      rw [k0]
      walk_at "xx"
      refine o_ntB ?_
      walk_at "xx"
      refine ix_int (lst_of (s19 _ _ en)) (by omega) (by omega) fun z' gz' => ?_
      rw [Int.toNat_natCast, hz] at gz'
      cases gz'
      walk_at "xx"
      refine ix_int (lst_of (s19 _ _ ev)) (by omega) (by omega) fun y gy => ?_
      rw [gvz vals lv17, hvz] at gy
      cases gy
      walk_at "xx"
      refine iteNI (fun e => absurd rfl e) (fun _ => ?_)
      walk_at "xx"
      refine ⟨ep', a1, ue, es, bump vals z (-1), rfl, .inl (lst_of (s19 _ _ ee)), te.tk s19.tk, .inl (lst_of (s19 _ _ b1)), by rw [bump_len, lv17]; exact hein, by omega, by rw [bump_len]; omega, fun H20 s20 => ?_⟩
      rw [k1]
      have S20 := s19.trans s20
      walk_at "xx"
      refine o_ntB ?_
      walk_at "xx"
      refine ⟨ep', a2, ue, es, bump vals z 1, rfl, .inl (lst_of (S20 _ _ ee)), te.tk S20.tk, .inl (lst_of (S20 _ _ b2)), by rw [bump_len, lv17]; exact hein, by omega, by rw [bump_len]; omega, fun H21 s21 => ?_⟩
      rw [k2]
      have S21 := S20.trans s21
      walk_at "xx"
      refine o_ntB ?_
      walk_at "xx"
      have e22 := S21 _ _ e18
      clear s19 s20 s21 S20
      refine f_list (xs := [V.ref vp, .ref a1, .ref a2, .ref a3]) (fun i σ H' => ∃ z13 z16, σ = [some (.ref a0), some (.ref p), some (.int M), some (.ref np), some (.ref wp), some (.ref op), some (.int c), none, some (.ref ep'), some (.ref pp), some (.ref qp), none, some (.ref vp), z13, some (.int (-sm)), some (.ref rp), z16, none, none, none] ∧ Same H18 H')
        ⟨_, _, rfl, S21⟩ (fun i σ H' hi p => ?_) (fun i x σ H23 hx p => ?_) (fun σ H23 p => ?_)
      · obtain ⟨_, _, rfl, s⟩ := p
        exact lst_of (s _ _ e18)
      · obtain ⟨z13, z16, rfl, s23⟩ := p
        obtain ⟨b, rfl, row, er, lr⟩ := rows x (List.mem_of_getElem? hx)
        walk_at "xx"
        refine ⟨pp, b, up, ds, row, rfl, .inl (lst_of (s23 _ _ ep)), tp.tk s23.tk, .inl (lst_of (s23 _ _ er)), by rw [lr]; exact hpin, by omega, by omega, fun H24 s24 => ?_⟩
        have S24 := s23.trans s24
        cases hq : ds.all (kept row) with
        | false =>
          walk_at "xx"
          refine o_ntB ?_
          walk_at "xx"
          exact ⟨_, _, rfl, S24⟩
        | true =>
          walk_at "xx"
          refine o_ntB ?_
          walk_at "xx"
          refine o_ntB ?_
          walk_at "xx"
          refine ix_int (lst_of (S24 _ _ en)) (by omega) (by omega) fun z' gz' => ?_
          rw [Int.toNat_natCast, hz] at gz'
          cases gz'
          walk_at "xx"
          refine ix_int (lst_of (S24 _ _ er)) (by omega) (by omega) fun y gy => ?_
          rw [gvz row lr] at gy
          cases gy
          walk_at "xx"
          have hp := all_path (mem_placed hns hmap) hpath hq
          have h0 : lv row 0 = 0 := rfl
          refine iteD (fun e => by omega) (fun _ => ?_)
          walk_at "xx"
          exact ⟨_, _, rfl, S24⟩
      · obtain ⟨z13, z16, rfl, s23⟩ := p
        walk_at "xx"
        exact q _
end
end K15
open PySem PySem.W PySem.Calls PyProof.Rows
set_option maxHeartbeats 0 in
theorem PySem.Challenge.cw_wayorring_k15_no_values_keep_a_ring_holds : PySem.Challenge.rw_wayorring_k15_no_values_keep_a_ring.Holds := by
  w_on; o_law
  refine HandSHeadRun.head_any (r := OpenLaw.row PySem.Challenge.rw_wayorring_k15_no_values_keep_a_ring) (q := view (OpenLaw.row PySem.Challenge.rw_wayorring_k15_no_values_keep_a_ring).prog [16]) (H := K15.hk) (ob := K15.ob) (M := 20000) (loose := K15.loose) (d := HandSHeadRun.topDef (OpenLaw.row PySem.Challenge.rw_wayorring_k15_no_values_keep_a_ring).prog 16) (kwd := []) K15.ob_eq
    (by kernel_rfl) (fun s => by kernel_rfl) K15.run (by kernel_rfl) (by kernel_rfl) (by kernel_rfl) (by rfl) (by first | assumption | decide +kernel) (by decide +kernel) ⟨rfl, rfl, rfl, rfl, rfl, by decide +kernel⟩ ?hw ?hc
  case hw => w_witness2
  case hc =>
    refine L2.walk_ofE (l := PySem.Challenge.rw_wayorring_k15_no_values_keep_a_ring) (n := 63) (k := 4) (x := "script") (CX := L2.CX0) rfl (by decide) (by kernel_rfl) ⟨rfl, by decide, by decide⟩ ?F (fun _ _ _ _ z => z)
    intro w mg fa h Y G hmg0
    obtain ⟨K, KX, c⟩ := Y
    have hmg : mg ("law" : PySem.Str) = some (.ref fa) := by
      have e : (HandSHeadRun.topDef (OpenLaw.row PySem.Challenge.rw_wayorring_k15_no_values_keep_a_ring).prog 16).name = ("law" : PySem.Str) := by kernel_rfl
      rw [← e]
      exact hmg0
    have T := K15.tx_of KX G c
    obtain ⟨f, fd, F, e2⟩ := T.d_law.ex
    have e3 := hmg.symm.trans e2
    cases e3
    exact ⟨K, fd, K15.spLaw K, KX, fun s v => L2.FunD.bindsA (ps := ["script"]) F (fun _ _ _ _ _ _ us hl => match us, hl with | [_], _ => rfl) s [v] rfl, fun H a ns hl _ hS => ⟨a, ns, rfl, hS, hl, fun _ => rfl⟩, fun base _ _ => K15.ok_law T F⟩

