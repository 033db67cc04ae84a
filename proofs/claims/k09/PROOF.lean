import PyProof.Rows.All
import Wide.All
import OpenK.AllK
import Wide.FinOn
import KE.KStateDown
import HandS.ForMost
import HandS.IsInst
import HandS.Codes
import HandS.Exc
import HandS.Defaults
import HandS.Head0
import HandS.Head1
import HandS.Head2
import HandS.HeadEnd
import HandS.HeadHook1
import HandS.HeadHook2
import HandS.HeadHook3
import HandS.HeadHook4
import HandS.FStr
import HandS.Dict
import HandS.More
import Wide.Once
import HandS.Wide
import HandS.Style
import HandS.Star
import HandS.TupAny
import HandS.Conv
import PyProof.ReprRoads
import PyProof.ReprLen
import PyProof.P3Eq
import HandS.Lambda
import HandS.EndTab
import HandS.HeadWalk
import PySem.Challenge.RW_wayorring_k09_values_and_truths
set_option Elab.async false
set_option linter.all false
set_option maxRecDepth 100000
set_option maxHeartbeats 8000000
/-! Wy: rules that take operands of several kinds, and steps. -/
namespace Wy
open PySem PySem.Spec PyProof.Rows L2
section
variable {X : Cx}
theorem CallR.or {f : Value} {r r' : List V → Hp → VK → Prop} (h : CallR X f r) (h' : CallR X f r') : CallR X f (fun xs H Q => r xs H Q ∨ r' xs H Q) := by
  intro pins s σ H xs us Q I rv q
  rcases q with q | q
  · exact h pins s σ H xs us Q I rv q
  · exact h' pins s σ H xs us Q I rv q
/-- k times a text -/
def repS (z : Str) (k : Int) : Str := ⟨(List.replicate k.toNat z.cps.toList).flatten.toArray⟩
theorem foldl_rep (a : Array Nat) : ∀ (n : Nat) (acc : Array Nat), ((List.replicate n a).foldl (· ++ ·) acc) = (acc.toList ++ (List.replicate n a.toList).flatten).toArray
  | 0, acc => by simp
  | n + 1, acc => by
    rw [List.replicate_succ, List.foldl_cons, foldl_rep a n, List.replicate_succ, List.flatten_cons]
    simp
theorem repS_eq (z : Str) (n : Int) : (⟨(List.replicate n.toNat z.cps).foldl (· ++ ·) #[]⟩ : Str) = repS z n := by
  unfold repS
  rw [foldl_rep]
  simp
def rMulSI : R2 := fun x y H Q => ∃ z k, x = .str z ∧ y = .int k ∧ 0 ≤ k ∧ k ≤ 1000 ∧ z.length ≤ 1000 ∧ Q (.str (repS z k)) H
theorem op_mulSI : OpR X (binaryOp .Mult) rMulSI := by
  intro pins s σ H x y v u Q I rx ry h
  obtain ⟨z, k, rfl, rfl, h0, h1, h2, q⟩ := h
  obtain ⟨t, rfl⟩ := rx
  obtain ⟨t', rfl⟩ := ry
  have hs : sizeLine = 16777216 := sizeLine_eq
  refine PySem.P.mul_str ?_ (fun a b => ?_) (fun a b => ?_) ?_
  · rw [decide_eq_false (by omega), decide_eq_false (by omega)]
    rfl
  · have h3 : (1000 : Int) ≤ (2 ^ 63 - 1) / k := (Int.le_ediv_iff_mul_le (by omega)).mpr (by omega)
    omega
  · unfold Builtin.Str.tooLong
    rw [decide_eq_false_iff_not]
    have h4 : z.length * k.toNat ≤ 1000 * 1000 := Nat.mul_le_mul h2 (by omega)
    omega
  · by_cases a : k < 1
    · have ek : k = 0 := by omega
      subst ek
      rw [if_pos a]
      have e : repS z 0 = Str.empty := rfl
      rw [e] at q
      exact ⟨by decide, .str Str.empty, H, I.tok _, ⟨_, rfl⟩, q⟩
    · rw [if_neg a]
      by_cases b : (k == 1 || z.length == 0) = true
      · rw [if_pos b]
        have e : repS z k = z := by
          rcases Bool.or_eq_true_iff.mp b with b | b
          · have e1 : k = 1 := by simpa using b
            subst e1
            unfold repS
            simp
          · have e1 : z.length = 0 := by simpa using b
            have e2 : z.cps = #[] := by simpa [Str.length] using e1
            obtain ⟨c⟩ := z
            unfold repS
            simp at e2
            subst e2
            simp
        rw [e] at q
        exact ⟨.str z, H, I, ⟨_, rfl⟩, q⟩
      · rw [if_neg b, repS_eq]
        refine ⟨?_, .str (repS z k), H, I.tok _, ⟨_, rfl⟩, q⟩
        have h4 : (repS z k).length = k.toNat * z.length := by
          unfold repS
          simp [Str.length, List.length_flatten, List.map_replicate, List.sum_replicate_nat]
        rw [h4]
        have h5 : k.toNat * z.length ≤ 1000 * 1000 := Nat.mul_le_mul (by omega) h2
        omega
/-- + of two ints, two texts, two lists -/
def rAddS : R2 := fun x y H Q => ∃ i j, x = .str i ∧ y = .str j ∧ i.length + j.length ≤ sizeLine ∧ Q (.str (i ++ j)) H
def rAddI : R2 := rI0 fun i j => .int (i + j)
def rAdd3 : R2 := fun x y H Q => rAddI x y H Q ∨ rAddS x y H Q ∨ rCat x y H Q
theorem op_add3 : OpR X (binaryOp .Add) rAdd3 := op_add.or (op_add_str.or op_cat)
def rMul2 : R2 := fun x y H Q => rI CMul (fun i j => .int (i * j)) x y H Q ∨ rMulSI x y H Q
theorem op_mul2 : OpR X (binaryOp .Mult) rMul2 := op_mul.or op_mulSI
/-- == -/
def rEq2 (K : PySem.W.Frag) : R2 := fun x y H Q => rEq x y H Q ∨ rEqD K x y H Q
theorem op_eq2 (hu : X.A.units + 64 < cLine) : OpR X (compareOp .Eq) (rEq2 X.K) := op_eq.or (op_eqD hu)
def rNe2 (K : PySem.W.Frag) : R2 := fun x y H Q => rNe x y H Q ∨ rNeD K x y H Q
theorem op_ne2 (hu : X.A.units + 64 < cLine) : OpR X (compareOp .NotEq) (rNe2 X.K) := op_ne.or (op_neD hu)
/-- in: a sign in a text; a flat item in a list or tuple -/
def rInS : R2 := fun x y H Q => ∃ (c : Nat) (z : Str), x = .str ⟨#[c]⟩ ∧ y = .str z ∧ Q (.bl (decide (c ∈ z.cps.toList))) H
def rNiS : R2 := fun x y H Q => ∃ (c : Nat) (z : Str), x = .str ⟨#[c]⟩ ∧ y = .str z ∧ Q (.bl (!decide (c ∈ z.cps.toList))) H
def rIn2 (K : PySem.W.Frag) : R2 := fun x y H Q => rInS x y H Q ∨ rIn K false x y H Q
def rNi2 (K : PySem.W.Frag) : R2 := fun x y H Q => rNiS x y H Q ∨ rIn K true x y H Q
theorem op_in2 : OpR X (compareOp .In) (rIn2 X.K) := op_in_sign.or op_in_seq
theorem op_ni2 : OpR X (compareOp .NotIn) (rNi2 X.K) := op_notIn_sign.or op_notIn_seq
def rSl2 (K : PySem.W.Frag) : V → Option Int → Option Int → Hp → VK → Prop := fun x lo hi H Q => rSlS x lo hi H Q ∨ rSlL K x lo hi H Q
theorem sl_2 : SlR X (rSl2 X.K) := sl_str.or sl_list
def rInt : List V → Hp → VK → Prop := fun xs H Q => ((∃ i, xs = [.int i] ∧ Q (.int i) H) ∨ ∃ k, xs = [.bl k] ∧ Q (.int (if k then 1 else 0)) H) ∨ ∃ a n, xs = [.str a] ∧ PySem.intText? a = some n ∧ a.length ≤ 640 ∧ Q (.int n) H
theorem call_int2 : CallR X (.type "int") rInt := CallR.or call_int1 call_int_str
def rAbs : List V → Hp → VK → Prop := fun xs H Q => ∃ i, xs = [.int i] ∧ Q (.int (if i < 0 then -i else i)) H
theorem call_abs2 : CallR X (.builtin "abs") rAbs := call_abs
def rLn (K : PySem.W.Frag) : List V → Hp → VK → Prop := fun xs H Q => ∃ x n, xs = [x] ∧ LenV K x H n ∧ Q (.int n) H
theorem call_len2 : CallR X (.builtin "len") (rLn X.K) := call_len
def tTr (K : PySem.W.Frag) (ta : TE) : TT := fun σ H Q => ta σ H fun x H' => ∃ k, TruV K x H' k ∧ Q k H'
theorem pt_tr {e : Expr} {te : TE} (h : PE X e te) (he : ∀ whole, isTrue e X.env whole = (do let v ← whole; standAt e.pos; holding [v] (truthy v)) := by intro _; rfl) : PT X e (tTr X.K te) := pt_truth h he
end

/-! ### what a heap keeps -/
/-- only at l -/
def Chg (l : Addr) (H H' : Hp) : Prop := ∀ b, b ≠ l → H' b = H b
theorem same_new {H : Hp} {p : Addr} {o : HO} (h : H p = none) : Same H (upd H p o) := fun b x e => by
  rw [upd_ne (ne_of_none e h)]
  exact e
theorem chg_upd {H : Hp} {p : Addr} {o : HO} : Chg p H (upd H p o) := fun b e => by rw [upd_ne e]
theorem Chg.same {l : Addr} {H0 H H' : Hp} (c : Chg l H H') (s : Same H0 H) (n : H0 l = none) : Same H0 H' := fun b o e => by
  rw [c b (ne_of_none e n)]
  exact s b o e
theorem Chg.at {l b : Addr} {H H' : Hp} {o : HO} (c : Chg l H H') (e : H b = some o) (n : b ≠ l) : H' b = some o := by
  rw [c b n]
  exact e
theorem new_same {H : Hp} {o : HO} {Q : VK} (h : ∀ p H2, H p = none → Same H H2 → H2 p = some o → Q (.ref p) H2) : ∀ p, H p = none → Q (.ref p) (upd H p o) :=
  fun p np => h p _ np (same_new np) upd_same
theorem lst_of {K : PySem.W.Frag} {H : Hp} {a : Addr} {xs : List V} (h : H a = some (.lst xs)) : SqL K H a xs := .inl (.inl h)
theorem tup_of {K : PySem.W.Frag} {H : Hp} {a : Addr} {xs : List V} (h : H a = some (.tup xs)) : SqT K H a xs := .inl (.inl h)
theorem seqT {K : PySem.W.Frag} {H H' : Hp} {a : Addr} {xs : List V} (e : Same H H') (h : SqT K H a xs) : SqT K H' a xs := by
  rcases h with (h | ⟨o, h⟩) | h
  · exact .inl (.inl (e _ _ h))
  · exact .inl (.inr ⟨o, e _ _ h⟩)
  · exact .inr h
/-! ### steps -/
def KBl (x : V) (H : Hp) (QT : Bool → Hp → Prop) : Prop := ∃ k, x = .bl k ∧ QT k H
def KTr (K : PySem.W.Frag) (x : V) (H : Hp) (QT : Bool → Hp → Prop) : Prop := ∃ k, TruV K x H k ∧ QT k H
def KInt (x : V) (H : Hp) (QO : Option Int → Hp → Prop) : Prop := ∃ i, x = .int i ∧ QO (some i) H
def KR1 (vs : List V) (H : Hp) (R : It → Hp → Prop) : Prop := ∃ j : Int, vs = [.int j] ∧ -(2 ^ 62) ≤ j ∧ j < 2 ^ 62 ∧ R (Itr 0 j.toNat) H
def KR2 (vs : List V) (H : Hp) (R : It → Hp → Prop) : Prop := ∃ i j : Int, vs = [.int i, .int j] ∧ (-(2 ^ 62) ≤ i ∧ i < 2 ^ 62 ∧ -(2 ^ 62) ≤ j ∧ j < 2 ^ 62) ∧ R (Itr i (j - i).toNat) H
def KL (K : PySem.W.Frag) (x : V) (H : Hp) (R : It → Hp → Prop) : Prop := ∃ a, x = .ref a ∧ (∃ xs, SqL K H a xs) ∧ R (Itl K a) H
def KT (K : PySem.W.Frag) (x : V) (H : Hp) (R : It → Hp → Prop) : Prop := ∃ a, x = .ref a ∧ (∃ xs, SqT K H a xs) ∧ R (Itt K a) H
def KS (x : V) (H : Hp) (R : It → Hp → Prop) : Prop := ∃ z, x = .str z ∧ R (Its z) H
def NewO (n : Nat) (o : HO) (H : Hp) (Q : VK) : Prop := n ≤ sizeLine ∧ ∀ p, H p = none → Q (.ref p) (upd H p o)
def COut (D : Addr) (y : V) (H : Hp) (N : Hp → Prop) : Prop := ∃ acc, H D = some (.lst acc) ∧ acc.length < sizeLine ∧ N (upd H D (.lst (acc ++ [y])))
def KWh (W : Nat → L2.St → Hp → Prop) (m : Nat) (t : TS) (D : Ends) (σ : L2.St) (H : Hp) : Prop := ∃ N : L2.St → Hp → Prop, (∀ σ' H', N σ' H' → ∃ m', m' < m ∧ W m' σ' H') ∧ t ⟨N, D.rt, D.nx, N⟩ σ H
section
variable {K : PySem.W.Frag} {σ : L2.St} {H : Hp} {Q : VK} {QT : Bool → Hp → Prop} {D : Ends} {t u : TS} {c c' : TT} {te ta tb : TE} {g : TG} {v x y : V} {i : Nat} {b : Bool} {QA : List V → Hp → Prop}
theorem s_seq (h : t ⟨u D, D.rt, D.bk, D.ct⟩ σ H) : tSeq t u D σ H := h
theorem s_asg (h : te σ H fun x H1 => g x σ H1 D.nx) : tAsg te g D σ H := h
theorem g_name {QS : L2.St → Hp → Prop} (h : QS (σ.set i (some v)) H) : gName i v σ H QS := h
theorem s_ret (h : te σ H D.rt) : tRet te D σ H := h
theorem s_retN (h : D.rt .non H) : tRetN D σ H := h
theorem s_drop (h : te σ H fun _ H1 => D.nx σ H1) : tDrop te D σ H := h
theorem s_if (h : c σ H fun b H1 => if b = true then t D σ H1 else u D σ H1) : tIfS c t u D σ H := h
theorem s_next (h : D.nx σ H) : tNext D σ H := h
theorem s_brk (h : D.bk σ H) : tBreak D σ H := h
theorem s_ct (h : D.ct σ H) : tCont D σ H := h
theorem s_aug {ti : TIp} (e : σ[i]? = some (some x)) (h : te σ H fun y H1 => ti x y H1 fun z H2 => D.nx (σ.set i (some z)) H2) : tAug i te ti D σ H := ⟨x, e, h⟩
theorem i_add {i j : Int} {f : Int → Int → Int} (h : Q (.int (f i j)) H) : ipI f (.int i) (.int j) H Q := ⟨i, j, rfl, rfl, h⟩
theorem s_cut (M : L2.St → Hp → Prop) (h : t ⟨M, D.rt, D.bk, D.ct⟩ σ H) (k : ∀ σ' H', M σ' H' → u D σ' H') : C8.tCut t u D σ H := ⟨M, h, k⟩
theorem e_var (e : σ[i]? = some (some v)) (h : Q v H) : tVar i σ H Q := ⟨v, e, h⟩
theorem e_c (h : Q v H) : tC v σ H Q := h
theorem e_op {r : R2} (h : ta σ H fun x H1 => tb σ H1 fun y H2 => r x y H2 Q) : tOp r ta tb σ H Q := h
theorem e_un {r : V → Hp → VK → Prop} (h : ta σ H fun x H1 => r x H1 Q) : tUn r ta σ H Q := h
theorem o_addI {i j : Int} (h : Q (.int (i + j)) H) : rAdd3 (.int i) (.int j) H Q := .inl ⟨i, j, rfl, rfl, h⟩
theorem o_addS {i j : Str} (hz : i.length + j.length ≤ sizeLine) (h : Q (.str (i ++ j)) H) : rAdd3 (.str i) (.str j) H Q := .inr (.inl ⟨i, j, rfl, rfl, hz, h⟩)
theorem o_addL {a a' : Addr} {xs ys : List V} (ha : H a = some (.lst xs)) (hb : H a' = some (.lst ys)) (hz : xs.length + ys.length ≤ sizeLine) (h : ∀ p H2, H p = none → Same H H2 → H2 p = some (.lst (xs ++ ys)) → Q (.ref p) H2) :
    rAdd3 (.ref a) (.ref a') H Q := .inr (.inr ⟨a, a', xs, ys, rfl, rfl, ha, hb, hz, new_same h⟩)
theorem o_mulI {i j : Int} (hc : CMul i j) (h : Q (.int (i * j)) H) : rMul2 (.int i) (.int j) H Q := .inl ⟨i, j, rfl, rfl, hc, h⟩
theorem o_mulI1 {i j : Int} (h1 : -(2 ^ 64) < i) (h2 : i < 2 ^ 64) (h : Q (.int (i * j)) H) : rMul2 (.int i) (.int j) H Q := o_mulI (.inl ⟨h1, h2⟩) h
theorem o_mulI2 {i j : Int} (h1 : -(2 ^ 64) < j) (h2 : j < 2 ^ 64) (h : Q (.int (i * j)) H) : rMul2 (.int i) (.int j) H Q := o_mulI (.inr ⟨h1, h2⟩) h
theorem o_mod {f : Int → Int → V} {i j : Int} (h1 : 0 < j) (h : Q (f i j) H) : rI (fun _ j => 0 < j) f (.int i) (.int j) H Q := ⟨i, j, rfl, rfl, h1, h⟩
theorem o_fdiv {f : Int → Int → V} {i j : Int} (h1 : 0 < j) (h2 : j < 1073741824) (h : Q (f i j) H) : rI CDiv f (.int i) (.int j) H Q := ⟨i, j, rfl, rfl, ⟨h1, h2⟩, h⟩
theorem o_pow {f : Int → Int → V} {i j : Int} (h1 : 0 ≤ j) (h2 : j ≤ 1000000) (h3 : i.natAbs < 2 ^ 64) (h : Q (f i j) H) : rI CPow f (.int i) (.int j) H Q := ⟨i, j, rfl, rfl, ⟨h1, h2, h3⟩, h⟩
theorem o_mulS {z : Str} {k : Int} (h0 : 0 ≤ k) (h1 : k ≤ 1000) (h2 : z.length ≤ 1000) (h : Q (.str (repS z k)) H) : rMul2 (.str z) (.int k) H Q := .inr ⟨z, k, rfl, rfl, h0, h1, h2, h⟩
theorem o_I0 {f : Int → Int → V} {i j : Int} (h : Q (f i j) H) : rI0 f (.int i) (.int j) H Q := ⟨i, j, rfl, rfl, h⟩
theorem o_I {C : Int → Int → Prop} {f : Int → Int → V} {i j : Int} (hc : C i j) (h : Q (f i j) H) : rI C f (.int i) (.int j) H Q := ⟨i, j, rfl, rfl, hc, h⟩
theorem o_eqS (hs : scal x y = true) (h : Q (.bl (decide (x = y))) H) : rEq2 K x y H Q := .inl ⟨hs, h⟩
theorem o_neS (hs : scal x y = true) (h : Q (.bl (!decide (x = y))) H) : rNe2 K x y H Q := .inl ⟨hs, h⟩
theorem o_eqD {d e : PyData} (h1 : Dp K H x d) (h2 : Dp K H y e) (h3 : SeqAt.shaped d = true) (h4 : SeqAt.shaped e = true) (h : Q (.bl (PyData.eqv d e)) H) : rEq2 K x y H Q := .inr ⟨d, e, h1, h2, h3, h4, h⟩
theorem o_neD {d e : PyData} (h1 : Dp K H x d) (h2 : Dp K H y e) (h3 : SeqAt.shaped d = true) (h4 : SeqAt.shaped e = true) (h : Q (.bl (!PyData.eqv d e)) H) : rNe2 K x y H Q := .inr ⟨d, e, h1, h2, h3, h4, h⟩
theorem o_inS {k : Nat} {z : Str} (h : Q (.bl (decide (k ∈ z.cps.toList))) H) : rIn2 K (.str ⟨#[k]⟩) (.str z) H Q := .inl ⟨k, z, rfl, rfl, h⟩
theorem o_niS {k : Nat} {z : Str} (h : Q (.bl (!decide (k ∈ z.cps.toList))) H) : rNi2 K (.str ⟨#[k]⟩) (.str z) H Q := .inl ⟨k, z, rfl, rfl, h⟩
theorem o_inT {a : Addr} {xs : List V} (hs : SqT K H a xs) (hf : flatV x = true) (hg : xs.all flatV = true) (h : Q (.bl (inV x xs)) H) : rIn2 K x (.ref a) H Q := .inr ⟨a, xs, rfl, .inr hs, hf, hg, h⟩
theorem o_inL {a : Addr} {xs : List V} (hs : SqL K H a xs) (hf : flatV x = true) (hg : xs.all flatV = true) (h : Q (.bl (inV x xs)) H) : rIn2 K x (.ref a) H Q := .inr ⟨a, xs, rfl, .inl hs, hf, hg, h⟩
theorem o_niT {a : Addr} {xs : List V} (hs : SqT K H a xs) (hf : flatV x = true) (hg : xs.all flatV = true) (h : Q (.bl (!inV x xs)) H) : rNi2 K x (.ref a) H Q := .inr ⟨a, xs, rfl, .inr hs, hf, hg, h⟩
theorem o_niL {a : Addr} {xs : List V} (hs : SqL K H a xs) (hf : flatV x = true) (hg : xs.all flatV = true) (h : Q (.bl (!inV x xs)) H) : rNi2 K x (.ref a) H Q := .inr ⟨a, xs, rfl, .inl hs, hf, hg, h⟩
def rIsN : R2 := fun x y H Q => y = .non ∧ Q (.bl (decide (x = .non))) H
def rNtN : R2 := fun x y H Q => y = .non ∧ Q (.bl (!decide (x = .non))) H
theorem op_isN2 {X : Cx} : OpR X (compareOp .Is) rIsN := op_isN
theorem op_ntN2 {X : Cx} : OpR X (compareOp .IsNot) rNtN := op_notN
theorem o_isN (h : Q (.bl (decide (x = .non))) H) : rIsN x .non H Q := ⟨rfl, h⟩
theorem o_ntN (h : Q (.bl (!decide (x = .non))) H) : rNtN x .non H Q := ⟨rfl, h⟩
theorem o_ixL {a : Addr} {xs : List V} {j : Int} (hs : SqL K H a xs) (e : atI xs j = some v) (h : Q v H) : rIx K (.ref a) (.int j) H Q := .inl ⟨a, xs, j, v, rfl, rfl, hs, e, h⟩
theorem o_ixT {a : Addr} {xs : List V} {j : Int} (hs : SqT K H a xs) (e : atI xs j = some v) (h : Q v H) : rIx K (.ref a) (.int j) H Q := .inr (.inl ⟨a, xs, j, v, rfl, rfl, hs, e, h⟩)
theorem o_ixS {z : Str} {j : Int} {k : Nat} (hz : z.length ≤ sizeLine) (e : atI z.cps.toList j = some k) (h : Q (.str ⟨#[k]⟩) H) : rIx K (.str z) (.int j) H Q := .inr (.inr ⟨z, j, k, rfl, rfl, hz, e, h⟩)
theorem u_neg {i : Int} {f : Int → V} (h : Q (f i) H) : rU f (.int i) H Q := ⟨i, rfl, h⟩
theorem t_test (h : te σ H fun x H' => KBl x H' QT) : tTest te σ H QT := h
theorem t_b (h : te σ H fun x H' => KBl x H' QT) : tB te σ H QT := h
theorem k_bl (h : QT b H) : KBl (.bl b) H QT := ⟨b, rfl, h⟩
theorem t_tr (h : te σ H fun x H' => KTr K x H' QT) : tTr K te σ H QT := h
theorem k_trB (h : QT b H) : KTr K (.bl b) H QT := ⟨b, rfl, h⟩
theorem k_trN (h : QT false H) : KTr K .non H QT := ⟨false, rfl, h⟩
theorem k_trI {i : Int} (h : QT (i != 0) H) : KTr K (.int i) H QT := ⟨_, rfl, h⟩
theorem k_trL {a : Addr} {xs : List V} (hs : SqL K H a xs) (h : QT (!xs.isEmpty) H) : KTr K (.ref a) H QT := ⟨_, .inl ⟨xs, hs, rfl⟩, h⟩
theorem k_trT {a : Addr} {xs : List V} (hs : SqT K H a xs) (h : QT (!xs.isEmpty) H) : KTr K (.ref a) H QT := ⟨_, .inr (.inl ⟨xs, hs, rfl⟩), h⟩
theorem t_and (h : c σ H fun b H1 => if b = true then c' σ H1 QT else QT false H1) : tAnd c c' σ H QT := h
theorem t_or (h : c σ H fun b H1 => if b = true then QT true H1 else c' σ H1 QT) : tOr c c' σ H QT := h
theorem t_not (h : c σ H fun b H1 => QT (!b) H1) : tNot c σ H QT := h
theorem e_andV (h : ta σ H fun x H1 => KBl x H1 fun b H2 => if b = true then tb σ H2 Q else Q (.bl false) H2) : tAndV ta tb σ H Q := h
theorem e_orV (h : ta σ H fun x H1 => KBl x H1 fun b H2 => if b = true then Q (.bl true) H2 else tb σ H2 Q) : tOrV ta tb σ H Q := h
theorem e_notV (h : ta σ H fun x H1 => KBl x H1 fun b H2 => Q (.bl (!b)) H2) : tNotV ta σ H Q := h
theorem e_if (h : c σ H fun b H1 => if b = true then ta σ H1 Q else tb σ H1 Q) : tIf c ta tb σ H Q := h
theorem e_chain {r r' : R2} {tc : TE} (h : ta σ H fun x H1 => tb σ H1 fun y H2 => r x y H2 fun z H3 => KBl z H3 fun k H3 => if k = true then tc σ H3 fun w' H4 => r' y w' H4 Q else Q (.bl false) H3) : tChain r r' ta tb tc σ H Q := h
theorem a_nil (h : QA [] H) : tNil σ H QA := h
theorem a_cons {tr : TA} (h : te σ H fun x H1 => tr σ H1 fun xs H2 => QA (x :: xs) H2) : tCons te tr σ H QA := h
theorem c_b {r : List V → Hp → VK → Prop} {tl : TA} (h : tl σ H fun vs H1 => r vs H1 Q) : tCB r tl σ H Q := h
theorem c_call {sp : Sp} {dvs : List V} {E : XK} {tl : TA} (h : tl σ H fun vs H1 => sp (vs ++ dvs) H1 Q E) : tCall sp dvs E tl σ H Q := h
theorem b_lenS {z : Str} (hz : z.length ≤ sizeLine) (h : Q (.int z.length) H) : rLn K [.str z] H Q := ⟨_, z.length, rfl, ⟨hz, rfl⟩, h⟩
theorem b_lenL {a : Addr} {xs : List V} (hs : SqL K H a xs) (h : Q (.int xs.length) H) : rLn K [.ref a] H Q := ⟨_, xs.length, rfl, .inl ⟨xs, hs, rfl⟩, h⟩
theorem b_lenT {a : Addr} {xs : List V} (hs : SqT K H a xs) (h : Q (.int xs.length) H) : rLn K [.ref a] H Q := ⟨_, xs.length, rfl, .inr ⟨xs, hs, rfl⟩, h⟩
theorem b_int {i : Int} (h : Q (.int i) H) : rInt [.int i] H Q := .inl (.inl ⟨i, rfl, h⟩)
theorem b_intB (h : Q (.int (if b then 1 else 0)) H) : rInt [.bl b] H Q := .inl (.inr ⟨b, rfl, h⟩)
theorem b_intS {z : Str} {n : Int} (e : PySem.intText? z = some n) (hl : z.length ≤ 640) (h : Q (.int n) H) : rInt [.str z] H Q := .inr ⟨z, n, rfl, e, hl, h⟩
theorem b_abs {i : Int} (h : Q (.int (if i < 0 then -i else i)) H) : rAbs [.int i] H Q := ⟨i, rfl, h⟩
theorem b_isi {n : String} {x : V} {tv : Value} (ty : TyX K H x tv) (h : PySem.W.kitOne K tv (.type n) = some b) (q : Q (.bl b) H) : rIsi K [x, .ty n] H Q := ⟨x, .ty n, tv, .type n, b, rfl, .ty n, ty, h, q⟩
theorem e_tup {tl : TA} (h : tl σ H fun xs H1 => NewO xs.length (.tup xs) H1 Q) : tTup tl σ H Q := h
theorem e_lst {tl : TA} (h : tl σ H fun xs H1 => NewO xs.length (.lst xs) H1 Q) : tLst tl σ H Q := h
theorem n_obj {n : Nat} {o : HO} (hz : n ≤ sizeLine) (h : ∀ p H2, H p = none → Same H H2 → H2 p = some o → Q (.ref p) H2) : NewO n o H Q := ⟨hz, new_same h⟩
theorem e_sl {r : V → Option Int → Option Int → Hp → VK → Prop} {tl th : TO} (h : te σ H fun x H1 => tl σ H1 fun l H2 => th σ H2 fun u H3 => r x l u H3 Q) : tSl r te tl th σ H Q := h
theorem p_no {QO : Option Int → Hp → Prop} (h : QO none H) : tNoPart σ H QO := h
theorem p_so {QO : Option Int → Hp → Prop} (h : te σ H fun x H1 => KInt x H1 QO) : tPart te σ H QO := h
theorem k_int {i : Int} {QO : Option Int → Hp → Prop} (h : QO (some i) H) : KInt (.int i) H QO := ⟨i, rfl, h⟩
theorem l_S {z : Str} {lo hi : Option Int} (hz : z.length ≤ sizeLine) (h : Q (.str (cutS z lo hi)) H) : rSl2 K (.str z) lo hi H Q := .inl ⟨z, rfl, hz, h⟩
theorem l_L {a : Addr} {xs : List V} {lo hi : Option Int} (hs : SqL K H a xs) (h : ∀ p H2, H p = none → Same H H2 → H2 p = some (.lst (cutV xs lo hi)) → Q (.ref p) H2) : rSl2 K (.ref a) lo hi H Q := .inr ⟨a, xs, rfl, hs, new_same h⟩
/-- o.m(..), m of a built-in type -/
theorem m_bm {T : String} {r : V → List V → Hp → VK → Prop} {tl : TA} (h : te σ H fun x H1 => tyV K T x H1 ∧ tl σ H1 fun xs H2 => r x xs H2 Q) : tBM K T r te tl σ H Q := h
theorem m_ty {a : Addr} {xs : List V} {P : Prop} (hs : SqL K H a xs) (h : P) : tyV K "list" (.ref a) H ∧ P := ⟨.inl ⟨rfl, xs, hs⟩, h⟩
theorem m_app {a : Addr} {xs : List V} (e : H a = some (.lst xs)) (hz : xs.length < sizeLine) (h : ∀ H2, Chg a H H2 → H2 a = some (.lst (xs ++ [y])) → Q .non H2) : rAppend (.ref a) [y] H Q := ⟨a, xs, y, rfl, rfl, e, hz, h _ chg_upd upd_same⟩
theorem g_sub {to ti : TE} {ts : TSet} {QS : L2.St → Hp → Prop} (h : to σ H fun o H1 => ti σ H1 fun i H2 => ts o i v H2 fun H3 => QS σ H3) : gSub to ti ts v σ H QS := h
theorem st_L {a : Addr} {xs : List V} {k : Int} {j : Nat} {QH : Hp → Prop} (e : H a = some (.lst xs)) (hj : ixN xs.length k = some j) (h : ∀ H2, Chg a H H2 → H2 a = some (.lst (xs.set j v)) → QH H2) : rSetL (.ref a) (.int k) v H QH := ⟨a, xs, k, j, rfl, rfl, e, hj, h _ chg_upd upd_same⟩
theorem m_m1 {r : V → List V → Hp → VK → Prop} (h : te σ H fun x H1 => (∃ a, x = .str a) ∧ ta σ H1 fun y H2 => r x [y] H2 Q) : tM1 r te ta σ H Q := h
theorem m_st {z : Str} {P : Prop} (h : P) : (∃ a, V.str z = .str a) ∧ P := ⟨⟨z, rfl⟩, h⟩
def rJoin (K : PySem.W.Frag) : V → List V → Hp → VK → Prop := fun x xs H Q => ∃ a p, ∃ ys : List Str, x = .str a ∧ xs = [.ref p] ∧ (SqL K H p (ys.map V.str) ∨ SqT K H p (ys.map V.str)) ∧
  (ys.map (·.length)).sum + ys.length * a.length ≤ 16777216 ∧ Q (.str (Txt.join a ys)) H
theorem pe_join2 {X : Cx} {o e : Expr} {to te : TE} {apos pos : Pos} (ho : PE X o to) (he : PE X e te) (hs : starEach [e] X.env = [(false, eval e X.env)] := by rfl) (hbase : attributeBase o "join" X.env (eval o X.env) = eval o X.env := by rfl) (hline : (apos.endLine == pos.line) = true := by rfl) :
    PE X (.Call (.Attribute o "join" apos) [e] [] pos) (tM1 (rJoin X.K) to te) := pe_join ho he hs hbase hline
theorem m_join {z : Str} {a : Addr} {ys : List Str} (hs : SqL K H a (ys.map V.str)) (hz : (ys.map (·.length)).sum + ys.length * z.length ≤ 16777216) (h : Q (.str (Txt.join z ys)) H) : rJoin K (.str z) [.ref a] H Q := ⟨z, a, ys, rfl, rfl, .inl hs, hz, h⟩
/-! ### loops -/
def LoopF (J : It) (g : TG) (tb : TS) (D : Ends) (σ : L2.St) (H : Hp) : Prop := ∃ W : Nat → Nat → L2.St → Hp → Prop, (∃ m, W 0 m σ H) ∧ ∀ i m σ H, W i m σ H →
  (J.stop i H ∧ D.nx σ H) ∨ (J.go i H ∧ ∃ N : L2.St → Hp → Prop, (∀ σ' H', N σ' H' → ∃ m', m' < m ∧ W (i + 1) m' σ' H') ∧ ∀ x H', J.yld i H x H' → g x σ H' fun σ2 H2 => tb { D with nx := N, ct := N, bk := D.nx } σ2 H2)
theorem s_for {wi : TI} (h : wi σ H fun J H1 => LoopF J g t D σ H1) : tFor wi g t D σ H := h
def LoopC (J : It) (g : TG) (tt : TT) (te : TE) (vs : List Nat) (σ : L2.St) (H1 : Hp) (Q : VK) : Prop := ∀ D, H1 D = none → ∃ W : Nat → Nat → Hp → Prop, (∃ m, W 0 m (upd H1 D (.lst []))) ∧ ∀ i m H, W i m H →
  (J.stop i H ∧ Q (.ref D) H) ∨ (J.go i H ∧ ∃ Nx : Hp → Prop, (∀ H', Nx H' → ∃ m', m' < m ∧ W (i + 1) m' H') ∧ ∀ x H', J.yld i H x H' → g x (wipe σ vs) H' fun σ2 H2 => wipe σ2 vs = wipe σ vs ∧ tt σ2 H2 fun b H3 =>
    if b = true then te σ2 H3 fun y H4 => ∃ acc, H4 D = some (.lst acc) ∧ acc.length < sizeLine ∧ Nx (upd H4 D (.lst (acc ++ [y]))) else Nx H3)
theorem e_lc {wi : TI} {tt : TT} {vs : List Nat} (h : wi σ H fun J H1 => LoopC J g tt te vs σ H1 Q) : tLc wi g tt te vs σ H Q := h
theorem t_yes (h : QT true H) : tYes σ H QT := h
theorem w_r1 {tl : TA} {R : It → Hp → Prop} (h : tl σ H fun vs H1 => KR1 vs H1 R) : iRng1 tl σ H R := h
theorem w_r2 {tl : TA} {R : It → Hp → Prop} (h : tl σ H fun vs H1 => KR2 vs H1 R) : iRng2 tl σ H R := h
theorem k_r1 {j : Int} {R : It → Hp → Prop} (h1 : -(2 ^ 62) ≤ j) (h2 : j < 2 ^ 62) (h : R (Itr 0 j.toNat) H) : KR1 [.int j] H R := ⟨j, rfl, h1, h2, h⟩
theorem k_r2 {i j : Int} {R : It → Hp → Prop} (h1 : -(2 ^ 62) ≤ i ∧ i < 2 ^ 62 ∧ -(2 ^ 62) ≤ j ∧ j < 2 ^ 62) (h : R (Itr i (j - i).toNat) H) : KR2 [.int i, .int j] H R := ⟨i, j, rfl, h1, h⟩
theorem w_l {R : It → Hp → Prop} (h : te σ H fun x H1 => KL K x H1 R) : iList K te σ H R := h
theorem k_l {a : Addr} {xs : List V} {R : It → Hp → Prop} (hs : SqL K H a xs) (h : R (Itl K a) H) : KL K (.ref a) H R := ⟨a, rfl, ⟨xs, hs⟩, h⟩
theorem w_t {R : It → Hp → Prop} (h : te σ H fun x H1 => KT K x H1 R) : iTup K te σ H R := h
theorem k_t {a : Addr} {xs : List V} {R : It → Hp → Prop} (hs : SqT K H a xs) (h : R (Itt K a) H) : KT K (.ref a) H R := ⟨a, rfl, ⟨xs, hs⟩, h⟩
theorem f_range {lo : Int} {n : Nat} (Pv : Nat → L2.St → Hp → Prop) (h0 : Pv 0 σ H)
    (hs : ∀ i σ H, i < n → Pv i σ H → g (.int (lo + i)) σ H fun σ2 H2 => t ⟨Pv (i + 1), D.rt, D.nx, Pv (i + 1)⟩ σ2 H2) (hd : ∀ σ H, Pv n σ H → D.nx σ H) : LoopF (Itr lo n) g t D σ H := for_range Pv h0 hs hd
theorem f_list {a : Addr} {xs : List V} (Pv : Nat → L2.St → Hp → Prop) (h0 : Pv 0 σ H) (hl : ∀ i σ H, i ≤ xs.length → Pv i σ H → SqL K H a xs)
    (hs : ∀ i x σ H, xs[i]? = some x → Pv i σ H → g x σ H fun σ2 H2 => t ⟨Pv (i + 1), D.rt, D.nx, Pv (i + 1)⟩ σ2 H2) (hd : ∀ σ H, Pv xs.length σ H → D.nx σ H) : LoopF (Itl K a) g t D σ H := for_list Pv h0 hl hs hd
theorem f_tup {a : Addr} {xs : List V} (Pv : Nat → L2.St → Hp → Prop) (h0 : Pv 0 σ H) (hl : ∀ i σ H, i ≤ xs.length → Pv i σ H → SqT K H a xs)
    (hs : ∀ i x σ H, xs[i]? = some x → Pv i σ H → g x σ H fun σ2 H2 => t ⟨Pv (i + 1), D.rt, D.nx, Pv (i + 1)⟩ σ2 H2) (hd : ∀ σ H, Pv xs.length σ H → D.nx σ H) : LoopF (Itt K a) g t D σ H := for_tup Pv h0 hl hs hd
/-- a text, sign by sign -/
theorem w_s {R : It → Hp → Prop} (h : te σ H fun x H1 => KS x H1 R) : iStr te σ H R := h
theorem k_s {z : Str} {R : It → Hp → Prop} (h : R (Its z) H) : KS (.str z) H R := ⟨z, rfl, h⟩
theorem f_str {z : Str} (Pv : Nat → L2.St → Hp → Prop) (h0 : Pv 0 σ H)
    (hs : ∀ i k σ H, z.cps.toList[i]? = some k → Pv i σ H → g (.str ⟨#[k]⟩) σ H fun σ2 H2 => t ⟨Pv (i + 1), D.rt, D.nx, Pv (i + 1)⟩ σ2 H2) (hd : ∀ σ H, Pv z.cps.toList.length σ H → D.nx σ H) : LoopF (Its z) g t D σ H := by
  refine ⟨fun i m σ H => m = z.cps.toList.length - i ∧ i ≤ z.cps.toList.length ∧ Pv i σ H, ⟨_, rfl, Nat.zero_le _, h0⟩, ?_⟩
  rintro i m σ H ⟨rfl, hi, p⟩
  by_cases hlt : i < z.cps.toList.length
  · refine .inr ⟨show i < z.cps.size by simpa using hlt, Pv (i + 1), fun σ' H' p' => ⟨z.cps.toList.length - (i + 1), by omega, rfl, hlt, p'⟩, fun x H' y => ?_⟩
    obtain ⟨rfl, k, e, rfl⟩ := y
    exact hs i k σ _ (by simpa using e) p
  · have e : i = z.cps.toList.length := by omega
    subst e
    exact .inl ⟨by simp [Its], hd σ H p⟩
theorem c_range {lo : Int} {n : Nat} {vs : List Nat} {tt : TT} (Pv : Addr → Nat → Hp → Prop) (h0 : ∀ D H1, H D = none → Same H H1 → H1 D = some (.lst []) → Pv D 0 H1)
    (hs : ∀ D i H1, i < n → H D = none → Pv D i H1 → g (.int (lo + i)) (wipe σ vs) H1 fun σ2 H2 => wipe σ2 vs = wipe σ vs ∧ tt σ2 H2 fun b H3 =>
      if b = true then te σ2 H3 fun y H4 => COut D y H4 (Pv D (i + 1)) else Pv D (i + 1) H3) (hd : ∀ D H1, H D = none → Pv D n H1 → Q (.ref D) H1) :
    LoopC (Itr lo n) g tt te vs σ H Q := fun D nD => lc_range (Pv D) (h0 D _ nD (same_new nD) upd_same) (fun i H1 hi p => hs D i H1 hi nD p) fun H1 p => hd D H1 nD p
theorem c_list {a : Addr} {xs : List V} {vs : List Nat} {tt : TT} (Pv : Addr → Nat → Hp → Prop) (h0 : ∀ D H1, H D = none → Same H H1 → H1 D = some (.lst []) → Pv D 0 H1) (hl : ∀ D i H1, i ≤ xs.length → H D = none → Pv D i H1 → SqL K H1 a xs)
    (hs : ∀ D i x H1, xs[i]? = some x → H D = none → Pv D i H1 → g x (wipe σ vs) H1 fun σ2 H2 => wipe σ2 vs = wipe σ vs ∧ tt σ2 H2 fun b H3 =>
      if b = true then te σ2 H3 fun y H4 => COut D y H4 (Pv D (i + 1)) else Pv D (i + 1) H3) (hd : ∀ D H1, H D = none → Pv D xs.length H1 → Q (.ref D) H1) :
    LoopC (Itl K a) g tt te vs σ H Q := fun D nD => lc_list (Pv D) (h0 D _ nD (same_new nD) upd_same) (fun i H1 hi p => hl D i H1 hi nD p) (fun i x H1 hi p => hs D i x H1 hi nD p) fun H1 p => hd D H1 nD p
theorem c_out {D : Addr} {acc : List V} {N : Hp → Prop} (e : H D = some (.lst acc)) (hz : acc.length < sizeLine) (h : ∀ H2, Chg D H H2 → H2 D = some (.lst (acc ++ [y])) → N H2) : COut D y H N := ⟨acc, e, hz, h _ chg_upd upd_same⟩
theorem s_while (W : Nat → L2.St → Hp → Prop) (m0 : Nat) (h0 : W m0 σ H) (hs : ∀ m σ H, W m σ H → c σ H fun b H1 => if b = true then KWh W m t D σ H1 else D.nx σ H1) : tWhile c t D σ H := ⟨W, ⟨m0, h0⟩, hs⟩
theorem k_while {W : Nat → L2.St → Hp → Prop} {m : Nat} (h : t ⟨fun σ' H' => ∃ m', m' < m ∧ W m' σ' H', D.rt, D.nx, fun σ' H' => ∃ m', m' < m ∧ W m' σ' H'⟩ σ H) : KWh W m t D σ H := ⟨_, fun _ _ q => q, h⟩
end
/-! ### a def of the top -/
structure DefOk (K : PySem.W.Frag) (mg : Str → Option Value) (x : Str) (st : Stmt) : Prop where
  ex : ∃ f fd, FunD K x x (defArgs st) (defBody st) (defScope st) [] [] f fd ∧ mg x = some (.ref f)
theorem cal_of {P : Program} {w : World} {K : PySem.W.Frag} {mg : Str → Option Value} {base : Heap} {x : Str} {st : Stmt} {N ps : List Str} {k : Nat} {sp : Sp} (F : DefOk K mg x st) (S : FnScope N ps (defScope st))
    (hb : ∀ f fd, FunD K x x (defArgs st) (defBody st) (defScope st) [] [] f fd → Binds K fd ps []) (len : ∀ vs H Q E, sp vs H Q E → vs.length = ps.length)
    (body : ∀ (f : Addr) (cdv : Value) (A : Around) (outer : List Env) (s : Shared) (H : Hp) (vs : List V) (Q : VK) (E : XK), Room k (A.deeper (envOfC x (defScope st) s.heap.objs.size f cdv)) → sp vs H Q E →
      ∃ t, PSs (cxOf CX0 P w K mg base N x (defScope st) f cdv A outer s H E).nox (defBody st) t ∧ t { nx := fun _ H' => Q .non H', rt := Q } (start N vs) H) : C8.Cal P w K mg base (k + 1) x sp [] := by
  obtain ⟨f, fd, F, hm⟩ := F.ex
  refine ⟨f, fd, ps, [], F.ok S len fun cdv A outer s H vs Q E hr h => ?_, hm, F.kp, hb f fd F, .nil⟩
  obtain ⟨t, h1, h2⟩ := body f cdv A outer s H vs Q E hr h
  exact ⟨t, PSs.nox h1, h2⟩
/-! ### calls without arguments -/
section
variable {X : Cx} {k j : Nat} {x : Str} {sp : Sp} {dvs : List V} {p pos : Pos}
theorem pe_c0 (c : C8.Cal X.prog X.w X.K X.mg X.base k x sp dvs) (hr : Room j X.A) (hk : k ≤ j) (hg : Gl X x) (hdb : (x == ("__debug__" : Str)) = false := by decide) :
    PE X (.Call (.Name x p) [] [] pos) (tCall sp dvs C8.E0 tNil) := by
  obtain ⟨f, fd, ps, ds, F, hm, kp, b, d⟩ := c.ex
  exact pe_call0 F (hr.mono hk) hg hm kp b d pass0 hdb
end
/-! ### a law's own hand of draws -/
def HandAt (H : Hp) (h d : Addr) : Prop := ∃ (n : Int) (ds : List Int), H h = some (.lst [.ref d, .int n]) ∧ 0 ≤ n ∧ H d = some (.lst (ds.map V.int))
/-- a draw below many -/
def spTake : Sp := fun vs H Q _ => ∃ (h d : Addr) (m : Int), vs = [.ref h, .int m] ∧ HandAt H h d ∧ 0 < m ∧ ∀ r H', 0 ≤ r → r < m → Chg h H H' → HandAt H' h d → Q (.int r) H'
theorem HandAt.ne {H : Hp} {h d : Addr} (x : HandAt H h d) : d ≠ h := by
  obtain ⟨n, ds, h1, h2, h3⟩ := x
  intro e
  subst e
  rw [h1] at h3
  cases ds <;> cases h3
theorem HandAt.same {H H' : Hp} {h d : Addr} (s : Same H H') (x : HandAt H h d) : HandAt H' h d := by
  obtain ⟨n, ds, h1, h2, h3⟩ := x
  exact ⟨n, ds, s _ _ h1, h2, s _ _ h3⟩
theorem HandAt.chg {H H' : Hp} {h d D : Addr} (c : Chg D H H') (x : HandAt H h d) (n1 : h ≠ D) (n2 : d ≠ D) : HandAt H' h d := by
  obtain ⟨n, ds, h1, h2, h3⟩ := x
  exact ⟨n, ds, c.at h1 n1, h2, c.at h3 n2⟩
theorem HandAt.new {H : Hp} {h d D : Addr} (x : HandAt H h d) (n : H D = none) : h ≠ D ∧ d ≠ D := by
  obtain ⟨_, ds, h1, h2, h3⟩ := x
  exact ⟨ne_of_none h1 n, ne_of_none h3 n⟩
/-- all but h is kept -/
def Keep (h : Addr) (H H' : Hp) : Prop := ∀ b o, b ≠ h → H b = some o → H' b = some o
theorem Keep.refl (h : Addr) (H : Hp) : Keep h H H := fun _ _ _ e => e
theorem Keep.trans {h : Addr} {H H1 H2 : Hp} (a : Keep h H H1) (b : Keep h H1 H2) : Keep h H H2 := fun c o n e => b c o n (a c o n e)
theorem Chg.keep {h : Addr} {H H' : Hp} (c : Chg h H H') : Keep h H H' := fun b o n e => c.at e n
theorem _root_.L2.Same.keep {h : Addr} {H H' : Hp} (c : Same H H') : Keep h H H' := fun b o _ e => c b o e
theorem Keep.chg {h D : Addr} {H H1 H2 : Hp} (k : Keep h H H1) (c : Chg D H1 H2) (n : H D = none) : Keep h H H2 := fun b o m e => c.at (k b o m e) (ne_of_none e n)
theorem Keep.free {h D : Addr} {H H1 : Hp} (k : Keep h H H1) (n : H1 D = none) (m : D ≠ h) : H D = none := by
  cases q : H D with
  | none => rfl
  | some o =>
    rw [k D o m q] at n
    cases n
theorem Keep.at {h b : Addr} {H H' : Hp} {o : HO} (c : Keep h H H') (e : H b = some o) (n : b ≠ h) : H' b = some o := c b o n e
theorem atI_of {α : Type} {xs : List α} {i : Int} {j : Nat} {v : α} (e : i = (j : Int)) (h : xs[j]? = some v) : atI xs i = some v := by
  subst e
  exact atI_nat h
/-! ### texts -/
theorem joinL_nil : ∀ ps : List (List Nat), TL.joinL [] ps = ps.flatten
  | [] => rfl
  | [p] => by simp [TL.joinL]
  | p :: q :: r => by
    show p ++ ([] ++ TL.joinL [] (q :: r)) = _
    rw [joinL_nil (q :: r)]
    simp
theorem join_empty (ys : List Str) : (Txt.join (Str.ofString "") ys).cps.toList = (ys.map fun y => y.cps.toList).flatten := by
  rw [TL.join_eq]
  have h := TL.tl_join (Str.ofString "") ys
  have e : TL.tl (Str.ofString "") = [] := by decide +kernel
  rw [e, joinL_nil] at h
  exact h
theorem str_len (z : Str) : z.length = z.cps.toList.length := by simp [Str.length]
theorem str_ext {x y : Str} (h : x.cps.toList = y.cps.toList) : x = y := by
  obtain ⟨a⟩ := x
  obtain ⟨b⟩ := y
  have e : a = b := Array.ext' h
  rw [e]
theorem app_len (x y : Str) : (x ++ y).length = x.length + y.length := by
  show (x.cps ++ y.cps).size = x.cps.size + y.cps.size
  simp
theorem app_tl (x y : Str) : (x ++ y).cps.toList = x.cps.toList ++ y.cps.toList := by
  show (x.cps ++ y.cps).toList = x.cps.toList ++ y.cps.toList
  simp
theorem repS_len (z : Str) (k : Int) : (repS z k).length = k.toNat * z.length := by
  unfold repS
  simp [Str.length, List.length_flatten, List.map_replicate, List.sum_replicate_nat]
theorem cutS_nat (z : Str) {i j : Nat} (hi : i ≤ z.length) (hj : j ≤ z.length) : (cutS z (some (i : Int)) (some (j : Int))).cps.toList = (z.cps.toList.drop i).take (j - i) := by
  unfold cutS
  rw [HT.sIx_nat, HT.sIx_nat, Nat.min_eq_left hi, Nat.min_eq_left hj]
theorem cutS_len2 (z : Str) (i : Nat) : (cutS z (some (i : Int)) (some ((i + 2 : Nat) : Int))).length = min (i + 2) z.length - min i z.length := by
  unfold cutS
  rw [HT.sIx_nat, HT.sIx_nat]
  show ((((z.cps.toList.drop (min i z.length)).take (min (i + 2) z.length - min i z.length)).toArray).size) = _
  rw [List.size_toArray, List.length_take, List.length_drop, Array.length_toList]
  show min _ (z.length - _) = _
  omega
/-- the place behind the longest run from i of signs in p -/
def runEnd (cs p : List Nat) (i : Nat) : Nat := i + ((cs.drop i).takeWhile fun c => decide (c ∈ p)).length
theorem runEnd_out {cs p : List Nat} {i : Nat} (h : cs.length ≤ i) : runEnd cs p i = i := by
  unfold runEnd
  rw [List.drop_of_length_le h]
  rfl
theorem runEnd_no {cs p : List Nat} {i c : Nat} (e : cs[i]? = some c) (h : c ∉ p) : runEnd cs p i = i := by
  unfold runEnd
  have hi : i < cs.length := (List.getElem?_eq_some_iff.mp e).1
  rw [List.drop_eq_getElem_cons hi, (List.getElem?_eq_some_iff.mp e).2, List.takeWhile_cons_of_neg (by simpa using h)]
  rfl
theorem runEnd_yes {cs p : List Nat} {i c : Nat} (e : cs[i]? = some c) (h : c ∈ p) : runEnd cs p i = runEnd cs p (i + 1) := by
  unfold runEnd
  have hi : i < cs.length := (List.getElem?_eq_some_iff.mp e).1
  rw [List.drop_eq_getElem_cons hi, (List.getElem?_eq_some_iff.mp e).2, List.takeWhile_cons_of_pos (by simpa using h), List.length_cons]
  omega
theorem runEnd_ge (cs p : List Nat) (i : Nat) : i ≤ runEnd cs p i := Nat.le_add_right _ _
theorem runEnd_le {cs p : List Nat} {i : Nat} (h : i ≤ cs.length) : runEnd cs p i ≤ cs.length := by
  unfold runEnd
  have h1 := (List.takeWhile_prefix (fun c => decide (c ∈ p)) (l := cs.drop i)).length_le
  rw [List.length_drop] at h1
  omega
theorem runEnd_all {cs p : List Nat} : runEnd cs p 0 = cs.length ↔ ∀ c ∈ cs, c ∈ p := by
  unfold runEnd
  rw [List.drop_zero, Nat.zero_add]
  induction cs with
  | nil => simp
  | cons a r ih =>
    by_cases h : a ∈ p
    · rw [List.takeWhile_cons_of_pos (by simpa using h), List.length_cons, List.length_cons, Nat.add_right_cancel_iff, ih]
      simp [h]
    · rw [List.takeWhile_cons_of_neg (by simpa using h)]
      simp [h]
theorem atI_cps {z : Str} {i : Nat} (h : i < z.length) : ∃ c, z.cps.toList[i]? = some c ∧ atI z.cps.toList (i : Int) = some c := by
  have h1 : i < z.cps.toList.length := by rw [← str_len]; exact h
  exact ⟨_, List.getElem?_eq_getElem h1, atI_nat (List.getElem?_eq_getElem h1)⟩
theorem small1000' {n : Nat} (h : n ≤ 100000) : n < sizeLine := Nat.lt_of_le_of_lt h (by decide)
theorem ixN_nat {n j : Nat} (h : j < n) : ixN n (j : Int) = some j := by
  unfold ixN
  rw [if_pos (by omega), if_pos (by omega)]
  simp
/-- one sign, compared -/
theorem sign_eq {c k : Nat} {y : Str} (hy : y = ⟨#[k]⟩) : decide (V.str ⟨#[c]⟩ = V.str y) = true ↔ c = k := by
  rw [decide_eq_true_iff, hy]
  constructor
  · intro e
    injection e with e
    injection e with e
    have e2 := congrArg Array.toList e
    simpa using e2
  · intro e
    rw [e]
theorem snoc_int {H : Hp} {d : Addr} {ds : List Int} {v : Int} (e : H d = some (.lst (ds.map V.int ++ [.int v]))) : ∃ ds' : List Int, H d = some (.lst (ds'.map V.int)) ∧ ds'.length = ds.length + 1 :=
  ⟨ds ++ [v], by rw [e, List.map_append]; rfl, by rw [List.length_append]; rfl⟩
/-- the items are texts of at most m signs -/
def strsB (m : Nat) (xs : List V) : Bool := xs.all fun x => match x with | .str y => decide (y.length ≤ m) | _ => false
theorem item_str (xs : List V) {m : Nat} (h : strsB m xs = true) {j : Nat} (hj : j < xs.length) : ∃ y : Str, xs[j]? = some (.str y) ∧ y.length ≤ m := by
  have h1 := List.all_eq_true.mp h xs[j] (List.getElem_mem hj)
  cases e : xs[j] with
  | str y =>
    rw [e] at h1
    exact ⟨y, by rw [List.getElem?_eq_getElem hj, e], of_decide_eq_true h1⟩
  | _ =>
    rw [e] at h1
    cases h1
theorem fn_of2 {P : Program} {w : World} {K : PySem.W.Frag} {mg : Str → Option Value} {base : Heap} {x : Str} {st : Stmt} {N ps : List Str} {k : Nat} {sp : Sp} {f : Addr} {fd : FuncData} (F : FunD K x x (defArgs st) (defBody st) (defScope st) [] [] f fd) (S : FnScope N ps (defScope st))
    (len : ∀ vs H Q E, sp vs H Q E → vs.length = ps.length)
    (body : ∀ (f : Addr) (cdv : Value) (A : Around) (outer : List Env) (s : Shared) (H : Hp) (vs : List V) (Q : VK) (E : XK), Room k (A.deeper (envOfC x (defScope st) s.heap.objs.size f cdv)) → sp vs H Q E →
      ∃ t, PSs (cxOf CX0 P w K mg base N x (defScope st) f cdv A outer s H E).nox (defBody st) t ∧ t { nx := fun _ H' => Q .non H', rt := Q } (start N vs) H) : FnOk P w K mg base CX0 (k + 1) f fd ps sp :=
  F.ok S len fun cdv A outer s H vs Q E hr h => by
    obtain ⟨t, h1, h2⟩ := body f cdv A outer s H vs Q E hr h
    exact ⟨t, PSs.nox h1, h2⟩
theorem lz {n : Nat} (h : n ≤ 1000) : n ≤ sizeLine := Nat.le_of_lt (small1000 h)
/-! ### more steps -/
def rStrI : List V → Hp → VK → Prop := fun xs H Q => ∃ i, xs = [.int i] ∧ i.natAbs.log2 < 1920 ∧ Q (.str (toString i)) H
theorem call_strI {X : Cx} : CallR X (.type "str") rStrI := call_str_int
def rLst (K : PySem.W.Frag) : List V → Hp → VK → Prop := fun xs H Q => ∃ p ys, xs = [.ref p] ∧ (SqL K H p ys ∨ SqT K H p ys) ∧ ∀ l, H l = none → Q (.ref l) (upd H l (.lst ys))
theorem call_lst {X : Cx} : CallR X (.type "list") (rLst X.K) := call_list_of
def rTpl (K : PySem.W.Frag) : List V → Hp → VK → Prop := fun xs H Q => ∃ p ys, xs = [.ref p] ∧ SqL K H p ys ∧ ∀ l, H l = none → Q (.ref l) (upd H l (.tup ys))
theorem log_small {n : Nat} (h : n < 10 ^ 40) : n.log2 < 1920 := by
  by_cases h0 : n = 0
  · subst h0
    decide
  · rw [Nat.log2_lt h0]
    exact Nat.lt_of_lt_of_le h (by decide +kernel)
def tJoined (ts : List TE) : TE := fun σ H Q => tJs ts Str.empty σ H fun out H1 => Q (.str out) H1
theorem pe_joined2 {X : Cx} {v1 v2 : Expr} {rest : List Expr} {ts : List TE} {pos : Pos} (h : PJ X (v1 :: v2 :: rest) ts) : PE X (.JoinedStr (v1 :: v2 :: rest) pos) (tJoined ts) := pe_joined h
def KJ (x : V) (acc : Str) (ts : List TE) (σ : L2.St) (H : Hp) (Q : Str → Hp → Prop) : Prop := ∃ y : Str, x = .str y ∧ (acc ++ y).length ≤ sizeLine ∧ tJs ts (acc ++ y) σ H Q
def KF (x : V) (H : Hp) (Q : VK) : Prop := (∃ y : Str, x = .str y ∧ y.length ≤ sizeLine ∧ Q (.str y) H) ∨ ∃ i : Int, x = .int i ∧ i.natAbs.log2 < 1920 ∧ Q (.str (toString i)) H
section
variable {K : PySem.W.Frag} {σ : L2.St} {H : Hp} {Q : VK} {QS : L2.St → Hp → Prop} {QJ : Str → Hp → Prop} {te : TE} {ts : List TE} {v : V} {g : TG}
theorem g_tup {u : TGs} {a : Addr} {xs : List V} {n : Nat} (hs : SqT K H a xs) (hl : xs.length = n) (h : u xs σ H QS) : gTup K n u (.ref a) σ H QS := ⟨a, xs, rfl, hs, hl, h⟩
theorem g_cons {u : TGs} {r : List V} (h : g v σ H fun σ' H' => u r σ' H' QS) : gCons g u (v :: r) σ H QS := ⟨v, r, rfl, h⟩
theorem g_nil (h : QS σ H) : gNil [] σ H QS := ⟨rfl, h⟩
theorem b_strI {i : Int} (hz : i.natAbs < 10 ^ 40) (h : Q (.str (toString i)) H) : rStrI [.int i] H Q := ⟨i, rfl, log_small hz, h⟩
theorem b_lst {a : Addr} {xs : List V} (hs : SqL K H a xs) (h : ∀ p H2, H p = none → Same H H2 → H2 p = some (.lst xs) → Q (.ref p) H2) : rLst K [.ref a] H Q := ⟨a, xs, rfl, .inl hs, new_same h⟩
theorem e_joined (h : tJs ts Str.empty σ H fun out H1 => Q (.str out) H1) : tJoined ts σ H Q := h
theorem j_nil {acc : Str} (h : QJ acc H) : tJs [] acc σ H QJ := h
theorem j_cons {acc : Str} (h : te σ H fun x H1 => KJ x acc ts σ H1 QJ) : tJs (te :: ts) acc σ H QJ := h
theorem k_j {acc y : Str} (hz : (acc ++ y).length ≤ sizeLine) (h : tJs ts (acc ++ y) σ H QJ) : KJ (.str y) acc ts σ H QJ := ⟨y, rfl, hz, h⟩
theorem e_fmt (h : te σ H fun x H1 => KF x H1 Q) : tFmt te σ H Q := h
theorem k_fS {y : Str} (hz : y.length ≤ sizeLine) (h : Q (.str y) H) : KF (.str y) H Q := .inl ⟨y, rfl, hz, h⟩
theorem k_fI {i : Int} (hz : i.natAbs < 10 ^ 40) (h : Q (.str (toString i)) H) : KF (.int i) H Q := .inr ⟨i, rfl, log_small hz, h⟩
end
/-! ### data of tuples -/
mutual
inductive Tp (H : Hp) : V → PyData → Prop
  | non : Tp H .non .none
  | bl (b : Bool) : Tp H (.bl b) (.bool b)
  | int (i : Int) : Tp H (.int i) (.int i)
  | str (x : Str) : Tp H (.str x) (.str x)
  | tup {a : Addr} {xs : List V} {ds : List PyData} : H a = some (.tup xs) → TpAll H xs ds → Tp H (.ref a) (.tuple ds)
inductive TpAll (H : Hp) : List V → List PyData → Prop
  | nil : TpAll H [] []
  | cons {v : V} {vs : List V} {d : PyData} {ds : List PyData} : Tp H v d → TpAll H vs ds → TpAll H (v :: vs) (d :: ds)
end
/-- the tuples stay -/
def TK (H H' : Hp) : Prop := ∀ a xs, H a = some (.tup xs) → H' a = some (.tup xs)
theorem TK.refl (H : Hp) : TK H H := fun _ _ e => e
theorem TK.trans {H H1 H2 : Hp} (a : TK H H1) (b : TK H1 H2) : TK H H2 := fun c xs e => b c xs (a c xs e)
theorem _root_.L2.Same.tk {H H' : Hp} (s : Same H H') : TK H H' := fun a xs e => s a _ e
theorem Chg.tk {l : Addr} {H H' : Hp} {ys : List V} (c : Chg l H H') (e : H l = some (.lst ys)) : TK H H' := fun a xs h => c.at h (ne_of h e (by intro z; cases z))
theorem Keep.tk {h : Addr} {H H' : Hp} {ys : List V} (c : Keep h H H') (e : H h = some (.lst ys)) : TK H H' := fun a xs q => c.at q (ne_of q e (by intro z; cases z))
theorem HandAt.keep_tk {h d : Addr} {H H' : Hp} (x : HandAt H h d) (c : Keep h H H') : TK H H' := by
  obtain ⟨n, ds, h1, _, _⟩ := x
  exact c.tk h1
theorem HandAt.chg_tk {h d : Addr} {H H' : Hp} (x : HandAt H h d) (c : Chg h H H') : TK H H' := x.keep_tk c.keep
mutual
theorem Tp.tk {H H' : Hp} (k : TK H H') : ∀ {d : PyData} {v : V}, Tp H v d → Tp H' v d
  | .none, _, h => by cases h; exact .non
  | .bool b, _, h => by cases h; exact .bl b
  | .int i, _, h => by cases h; exact .int i
  | .str x, _, h => by cases h; exact .str x
  | .tuple ds, _, h => by
    cases h with
    | tup e r => exact .tup (k _ _ e) (TpAll.tk k r)
  | .list _, _, h => by cases h
  | .dict _, _, h => by cases h
theorem TpAll.tk {H H' : Hp} (k : TK H H') : ∀ {ds : List PyData} {vs : List V}, TpAll H vs ds → TpAll H' vs ds
  | [], _, h => by cases h; exact .nil
  | d :: ds, _, h => by
    cases h with
    | cons h1 h2 => exact .cons (Tp.tk k h1) (TpAll.tk k h2)
end
mutual
theorem Tp.dp {K : PySem.W.Frag} {H : Hp} : ∀ {d : PyData} {v : V}, Tp H v d → Dp K H v d
  | .none, _, h => by cases h; exact .non
  | .bool b, _, h => by cases h; exact .bl b
  | .int i, _, h => by cases h; exact .int i
  | .str x, _, h => by cases h; exact .str x
  | .tuple ds, _, h => by
    cases h with
    | tup e r => exact .tup (tup_of e) (TpAll.dp r)
  | .list _, _, h => by cases h
  | .dict _, _, h => by cases h
theorem TpAll.dp {K : PySem.W.Frag} {H : Hp} : ∀ {ds : List PyData} {vs : List V}, TpAll H vs ds → DpAll K H vs ds
  | [], _, h => by cases h; exact .nil
  | d :: ds, _, h => by
    cases h with
    | cons h1 h2 => exact .cons (Tp.dp h1) (TpAll.dp h2)
end
theorem TpAll.get {H : Hp} : ∀ {vs : List V} {ds : List PyData} {i : Nat} {d : PyData}, TpAll H vs ds → ds[i]? = some d → ∃ v, vs[i]? = some v ∧ Tp H v d
  | _, _, _, _, .nil, h => by cases h
  | _, _, 0, _, .cons h1 _, h => by
    cases h
    exact ⟨_, rfl, h1⟩
  | _, _, i + 1, _, .cons _ h2, h => by
    obtain ⟨v, e, q⟩ := TpAll.get h2 (i := i) h
    exact ⟨v, e, q⟩
theorem TpAll.length {H : Hp} : ∀ {vs : List V} {ds : List PyData}, TpAll H vs ds → vs.length = ds.length
  | _, _, .nil => rfl
  | _, _, .cons _ h => by rw [List.length_cons, List.length_cons, h.length]
/-- a def that is never called so -/
theorem cal_never {P : Program} {w : World} {K : PySem.W.Frag} {mg : Str → Option Value} {base : Heap} {x : Str} {st : Stmt} {ps : List Str} {k : Nat} {sp : Sp} (F : DefOk K mg x st)
    (hb : ∀ f fd, FunD K x x (defArgs st) (defBody st) (defScope st) [] [] f fd → Binds K fd ps []) (no : ∀ vs H Q E, ¬ sp vs H Q E) : C8.Cal P w K mg base k x sp [] := by
  obtain ⟨f, fd, F, hm⟩ := F.ex
  exact ⟨f, fd, ps, [], ⟨fun vs H Q E h => absurd h (no _ _ _ _), fun A outer s H args us vs Q E hr he hb hv h => absurd h (no _ _ _ _)⟩, hm, F.kp, hb f fd F, .nil⟩
end Wy
open Wy
namespace W6
open PySem PySem.Spec PyProof.Rows L2 Wy
theorem uu {a c : Nat} (h : a + 64 < c) : a + 1 < c := by omega
/-! ### a table of the top: texts to tuples -/
def rKd (K : PySem.W.Frag) (d : Addr) : R2 := fun x y H Q => ∃ (z : Str) (u0 : Value) (v0 : V), x = .ref d ∧ y = .str z ∧ PySem.W.nsIn K d z = some (some u0) ∧ RelV v0 u0 ∧ Q v0 H
theorem pe_kd {X : Cx} {d : Addr} {es : Array DictEntry} {n : Nat} {o i : Expr} {pos : Pos} {td ty : TE} (D : KDict X.K X.w d es n) (ho : PE X o td) (hi : PE X i ty) (hs : NoSl i) : PE X (.Subscript o i pos) (tOp (rKd X.K d) td ty) := by
  refine ⟨fun pins s σ H Q I h => ?_⟩
  refine subD_of PySem.F.slot_dict_getitem.lookup hs (thn (ho.run pins s σ H _ I h) fun u s1 ⟨x, H1, I1, rx, q1⟩ => thn (hi.run pins s1 σ H1 _ I1 q1) fun iv s2 ⟨y, H2, I2, ry, q2⟩ => ?_)
  have q3 := q2
  obtain ⟨z, u0, v0, ex, ey, e, r, q⟩ := q2
  subst ex
  have ru : u = Value.ref d := rx
  subst ru
  exact ⟨kd_type D I2, op_item_kd D pins s2 σ H2 (.ref d) y _ iv Q I2 rfl ry q3⟩
def tupAt (K : PySem.W.Frag) (o : Option Obj) (vs : List V) : Bool := match o with
  | some ⟨.type c, none, .seq its _, _⟩ => decide (c = "tuple") && (decide (its.size ≤ sizeLine) && He.relAll vs its.toList)
  | _ => false
def keyB (K : PySem.W.Frag) (d : Addr) (z : Str) (vs : List V) : Bool := match PySem.W.nsIn K d z with
  | some (some (.ref t)) => tupAt K (K.lookup t) vs
  | _ => false
theorem tupAt_ok {K : PySem.W.Frag} {t : Addr} {vs : List V} (h : tupAt K (K.lookup t) vs = true) (H : Hp) : SqT K H t vs := by
  unfold tupAt at h
  split at h
  · rename_i c its n sl e
    obtain ⟨h1, h2⟩ := He.ba h
    obtain ⟨h3, h4⟩ := He.ba h2
    exact .inr ⟨_, its, n, e, congrArg Value.type (of_decide_eq_true h1), rfl, of_decide_eq_true h3, He.relAll_ok h4⟩
  · cases h
theorem keyB_ok {K : PySem.W.Frag} {d : Addr} {z : Str} {vs : List V} (h : keyB K d z vs = true) : ∃ t, PySem.W.nsIn K d z = some (some (.ref t)) ∧ ∀ H, SqT K H t vs := by
  unfold keyB at h
  split at h
  · rename_i t e
    exact ⟨t, e, fun H => tupAt_ok h H⟩
  · cases h
theorem o_kd {K : PySem.W.Frag} {H : Hp} {Q : VK} {d t : Addr} {z : Str} (e : PySem.W.nsIn K d z = some (some (.ref t))) (q : Q (.ref t) H) : rKd K d (.ref d) (.str z) H Q := ⟨z, _, .ref t, rfl, rfl, e, rfl, q⟩
def rTup (K : PySem.W.Frag) : List V → Hp → VK → Prop := fun xs H Q => ∃ p ys, xs = [.ref p] ∧ ((SqL K H p ys ∧ ∀ l, H l = none → Q (.ref l) (upd H l (.tup ys))) ∨ (SqT K H p ys ∧ Q (.ref p) H))
theorem call_tup2 {X : Cx} : CallR X (.type "tuple") (rTup X.K) := call_tuple_of
theorem b_tup {K : PySem.W.Frag} {H : Hp} {Q : VK} {a : Addr} {xs : List V} (hs : SqL K H a xs) (h : ∀ p H2, H p = none → Same H H2 → H2 p = some (.tup xs) → Q (.ref p) H2) : rTup K [.ref a] H Q := ⟨a, xs, rfl, .inl ⟨hs, new_same h⟩⟩
end W6
/-! WN: more rules and steps. -/
namespace WN
open PySem PySem.Spec PyProof.Rows L2 Wy
theorem sm {H H' : Hp} {a : Addr} {o : HO} (s : Same H H') (h : H a = some o) : H' a = some o := s _ _ h
theorem cm {l : Addr} {H H' : Hp} {a : Addr} {o : HO} (c : Chg l H H') (n : a ≠ l) (h : H a = some o) : H' a = some o := c.at h n
theorem ne_new {H : Hp} {a l : Addr} {o : HO} (n : H l = none) (h : H a = some o) : a ≠ l := ne_of_none h n
theorem iteTT {b : Bool} {A B : Prop} (e : b = true) (h : A) : if b = true then A else B := by
  rw [if_pos e]
  exact h
theorem iteFF {b : Bool} {A B : Prop} (e : b = false) (h : B) : if b = true then A else B := by
  rw [if_neg (by rw [e]; exact Bool.false_ne_true)]
  exact h
theorem iteB {b : Bool} {A B : Prop} (h1 : b = true → A) (h2 : b = false → B) : if b = true then A else B := by
  cases b with
  | true => exact iteTT rfl (h1 rfl)
  | false => exact iteFF rfl (h2 rfl)
/-- a decided question -/
theorem iteD {p : Prop} [Decidable p] {A B : Prop} (h1 : p → A) (h2 : ¬ p → B) : if decide p = true then A else B := ite2 (fun e => h1 (of_decide_eq_true e)) fun e => h2 fun x => e (decide_eq_true x)
theorem iteND {p : Prop} [Decidable p] {A B : Prop} (h1 : ¬ p → A) (h2 : p → B) : if (!decide p) = true then A else B := by
  by_cases h : p
  · exact iteFF (by rw [decide_eq_true h]; rfl) (h2 h)
  · exact iteTT (by rw [decide_eq_false h]; rfl) (h1 h)
theorem nRN (a : Addr) : decide (V.ref a = V.non) = false := decide_eq_false (fun e => nomatch e)
theorem nIN (a : Int) : decide (V.int a = V.non) = false := decide_eq_false (fun e => nomatch e)
theorem nSN (a : Str) : decide (V.str a = V.non) = false := decide_eq_false (fun e => nomatch e)
theorem nBN (a : Bool) : decide (V.bl a = V.non) = false := decide_eq_false (fun e => nomatch e)
theorem nNRN (a : Addr) : (!decide (V.ref a = V.non)) = true := by rw [nRN]; rfl
theorem nNIN (a : Int) : (!decide (V.int a = V.non)) = true := by rw [nIN]; rfl
theorem nNSN (a : Str) : (!decide (V.str a = V.non)) = true := by rw [nSN]; rfl
theorem nNBN (a : Bool) : (!decide (V.bl a = V.non)) = true := by rw [nBN]; rfl
theorem dI (a b : Int) : decide (V.int a = V.int b) = decide (a = b) := by
  by_cases h : a = b
  · subst h
    rw [decide_eq_true rfl, decide_eq_true rfl]
  · rw [decide_eq_false h, decide_eq_false (fun e => h (V.int.inj e))]
theorem iteI {i j : Int} {A B : Prop} (h1 : i = j → A) (h2 : ¬ i = j → B) : if decide (V.int i = V.int j) = true then A else B := by
  rw [dI]
  exact iteD h1 h2
theorem iteNI {i j : Int} {A B : Prop} (h1 : ¬ i = j → A) (h2 : i = j → B) : if (!decide (V.int i = V.int j)) = true then A else B := by
  rw [dI]
  exact iteND h1 h2
theorem free_of {H H' : Hp} {a : Addr} (n : H' a = none) (s : Same H H') : H a = none := s.free n
theorem dB (a b : Bool) : decide (V.bl a = V.bl b) = decide (a = b) := by cases a <;> cases b <;> rfl
section
variable {X : Cx}
def rAll2 (K : PySem.W.Frag) : List V → Hp → VK → Prop := rAll K
theorem call_all2 (hc : X.calm = true) : CallR X (.builtin "all") (rAll2 X.K) := cr_all hc
def rSum2 (K : PySem.W.Frag) : List V → Hp → VK → Prop := rSum K
theorem call_sum2 (hc : X.calm = true) : CallR X (.builtin "sum") (rSum2 X.K) := cr_sum hc
def rMx2 (_ : PySem.W.Frag) : List V → Hp → VK → Prop := fun xs H Q => ∃ i j, xs = [.int i, .int j] ∧ Q (.int (if j > i then j else i)) H
theorem call_mx2 (hc : X.calm = true) : CallR X (.builtin "max") (rMx2 X.K) := call_max2 hc
def rMn2 (_ : PySem.W.Frag) : List V → Hp → VK → Prop := fun xs H Q => ∃ i j, xs = [.int i, .int j] ∧ Q (.int (if j < i then j else i)) H
theorem call_mn2 (hc : X.calm = true) : CallR X (.builtin "min") (rMn2 X.K) := call_min2 hc
def rIsi2 (K : PySem.W.Frag) : List V → Hp → VK → Prop := fun xs H Q => rIsi K xs H Q ∨ rIsiT K xs H Q
theorem call_isi2 : CallR X (.builtin "isinstance") (rIsi2 X.K) := Wy.CallR.or call_isi call_isiT
/-- a call of a built-in that wants calm -/
theorem pe_callC {id : String} {x : Str} {e : Expr} {es : List Expr} {p pos : Pos} {t : TA} {r : PySem.W.Frag → List V → Hp → VK → Prop} (hc : ∀ X : Cx, X.calm = true → CallR X (.builtin id) (r X.K)) (hg : Gl X x) (hm : X.mg x = none) (hv : bootBuiltins x = some (.builtin id)) (ha : PA X (e :: es) t) (hcalm : X.calm = true := by rfl) (hn : x ≠ "__name__" := by decide) (hdb : (x == ("__debug__" : Str)) = false := by decide)
    (he : starEach (e :: es) X.env = (false, eval e X.env) :: starEach es X.env := by rfl) (hpl : (backTo pos (starEach es X.env)).any (·.1) = false := by rfl) : PE X (.Call (.Name x p) (e :: es) [] pos) (tCB (r X.K) t) :=
  pe_callB (hc X hcalm) hg hm hv ha hn hdb he hpl
theorem cc_all (X : Cx) (h : X.calm = true) : CallR X (.builtin "all") (rAll2 X.K) := call_all2 h
theorem cc_sum (X : Cx) (h : X.calm = true) : CallR X (.builtin "sum") (rSum2 X.K) := call_sum2 h
theorem cc_max (X : Cx) (h : X.calm = true) : CallR X (.builtin "max") (rMx2 X.K) := call_mx2 h
theorem cc_min (X : Cx) (h : X.calm = true) : CallR X (.builtin "min") (rMn2 X.K) := call_mn2 h
/-- repr of data -/
def rRepr (K : PySem.W.Frag) : List V → Hp → VK → Prop := fun xs H Q => ∃ (a : Addr) (d : PyData), xs = [.ref a] ∧ Dp K H (.ref a) d ∧ d.showable = true ∧ d.hasDict = false ∧ d.depth ≤ 60 ∧ d.shown.length ≤ sizeLine ∧ Q (.str d.shown) H
end
section
variable {K : PySem.W.Frag} {H : Hp} {Q : VK} {v x y : V} {b : Bool}
theorem o_fdW {f : Int → Int → V} {i j : Int} (h1 : 0 < j) (h2 : j ≤ 10 ^ 90) (h : Q (f i j) H) : rI CDivW f (.int i) (.int j) H Q :=
  ⟨i, j, rfl, rfl, wide_div (b := 400) h1 (by
    have : (10 : Int) ^ 90 < 2 ^ 400 := by decide +kernel
    omega) (by decide) (by decide), h⟩
/-- a rest, its bounds alone -/
theorem o_modG {i j : Int} (h1 : 0 < j) (h : ∀ r : Int, 0 ≤ r → r < j → Q (.int r) H) : rI (fun _ j => 0 < j) (fun i j => .int (i % j)) (.int i) (.int j) H Q := o_mod h1 (h _ (Int.emod_nonneg _ (by omega)) (Int.emod_lt_of_pos _ h1))
theorem b_all {a : Addr} {bs : List Bool} (hs : SqL K H a (bs.map V.bl)) (h : Q (.bl (bs.all id)) H) : rAll2 K [.ref a] H Q := ⟨a, bs, rfl, hs, h⟩
theorem b_sum {a : Addr} {ns : List Int} (hs : SqL K H a (ns.map V.int)) (h : Q (.int ns.sum) H) : rSum2 K [.ref a] H Q := ⟨a, ns, rfl, hs, h⟩
theorem b_mx {i j : Int} (h : Q (.int (max i j)) H) : rMx2 K [.int i, .int j] H Q := ⟨i, j, rfl, by
  have e : (if j > i then j else i) = max i j := by split <;> omega
  rw [e]
  exact h⟩
theorem b_mn {i j : Int} (h : Q (.int (min i j)) H) : rMn2 K [.int i, .int j] H Q := ⟨i, j, rfl, by
  have e : (if j < i then j else i) = min i j := by split <;> omega
  rw [e]
  exact h⟩
theorem b_is2 {n : String} {x : V} {tv : Value} (ty : TyX K H x tv) (h : PySem.W.kitOne K tv (.type n) = some b) (q : Q (.bl b) H) : rIsi2 K [x, .ty n] H Q := .inl (b_isi ty h q)
theorem ls_new {a : Addr} {xs : List V} (hs : SqL K H a xs) (h : ∀ p H2, H p = none → Same H H2 → H2 p = some (.lst xs) → Q (.ref p) H2) : rLst K [.ref a] H Q := ⟨a, xs, rfl, .inl hs, new_same h⟩
theorem ls_newT {a : Addr} {xs : List V} (hs : SqT K H a xs) (h : ∀ p H2, H p = none → Same H H2 → H2 p = some (.lst xs) → Q (.ref p) H2) : rLst K [.ref a] H Q := ⟨a, xs, rfl, .inr hs, new_same h⟩
theorem tp_new {a : Addr} {xs : List V} (hs : SqL K H a xs) (h : ∀ p H2, H p = none → Same H H2 → H2 p = some (.tup xs) → Q (.ref p) H2) : W6.rTup K [.ref a] H Q := W6.b_tup hs h
theorem tp_same {a : Addr} {xs : List V} (hs : SqT K H a xs) (h : Q (.ref a) H) : W6.rTup K [.ref a] H Q := ⟨a, xs, rfl, .inr ⟨hs, h⟩⟩
end
/-! ### draws -/
/-- each draw lies below its size -/
inductive Dr : List Int → List Int → Prop
  | nil : Dr [] []
  | cons {d s : Int} {ds ss : List Int} : 0 ≤ d → d < s → Dr ds ss → Dr (d :: ds) (s :: ss)
theorem Dr.len : ∀ {ds ss : List Int}, Dr ds ss → ds.length = ss.length
  | _, _, .nil => rfl
  | _, _, .cons _ _ h => by rw [List.length_cons, List.length_cons, h.len]
theorem Dr.snoc : ∀ {ds ss : List Int} {d s : Int}, Dr ds ss → 0 ≤ d → d < s → Dr (ds ++ [d]) (ss ++ [s])
  | _, _, _, _, .nil, h1, h2 => .cons h1 h2 .nil
  | _, _, _, _, .cons a b h, h1, h2 => .cons a b (h.snoc h1 h2)
theorem Dr.at : ∀ {ds ss : List Int} {i : Nat} {s : Int}, Dr ds ss → ss[i]? = some s → ∃ d, ds[i]? = some d ∧ 0 ≤ d ∧ d < s
  | _, _, 0, _, .cons a b _, e => by cases e; exact ⟨_, rfl, a, b⟩
  | _, _, i + 1, _, .cons _ _ h, e => h.at (i := i) e
theorem Dr.get {ds ss : List Int} {i : Nat} {d : Int} (h : Dr ds ss) (e : ds[i]? = some d) : ∃ s, ss[i]? = some s ∧ 0 ≤ d ∧ d < s := by
  have hl := h.len
  have hi := (List.getElem?_eq_some_iff.mp e).1
  obtain ⟨d', e', h1, h2⟩ := h.at (i := i) (List.getElem?_eq_getElem (by omega))
  rw [e] at e'
  cases e'
  exact ⟨_, List.getElem?_eq_getElem (by omega), h1, h2⟩
theorem Dr.inv {ds ss : List Int} {s : Int} (h : Dr ds (s :: ss)) : ∃ d r, ds = d :: r ∧ 0 ≤ d ∧ d < s ∧ Dr r ss := by
  cases h with
  | cons h1 h2 h3 => exact ⟨_, _, rfl, h1, h2, h3⟩
theorem Dr.nil_inv {ds : List Int} (h : Dr ds []) : ds = [] := by
  cases h
  rfl
/-- sizes that may be drawn below -/
def SzOk (ss : List Int) : Prop := ss.length ≤ 1000 ∧ ∀ s ∈ ss, 0 < s ∧ s ≤ 10 ^ 80
theorem szOk_of {ss : List Int} (h : (decide (ss.length ≤ 1000) && ss.all fun s => decide (0 < s) && decide (s ≤ 10 ^ 80)) = true) : SzOk ss := by
  simp only [Bool.and_eq_true, decide_eq_true_eq, List.all_eq_true] at h
  exact h
def PR : List Int := [2147483647, 998244353, 1000000007, 1000000009, 4294967291, 1073741789, 536870909, 2305843009213693951]
theorem pr_at {j : Nat} (h : j < 8) : ∃ p, PR[j]? = some p ∧ 0 < p ∧ p < 2 ^ 62 := by
  have : ∀ j, j < 8 → 0 < PR.getD j 0 ∧ PR.getD j 0 < 2 ^ 62 := by decide +kernel
  exact ⟨PR.getD j 0, by rw [List.getD_eq_getElem?_getD, List.getElem?_eq_getElem (by exact h)]; rfl, this j h⟩
theorem ix_pr {K : PySem.W.Frag} {H : Hp} {Q : VK} {a : Addr} {i : Int} (e : H a = some (.lst (PR.map V.int))) (h0 : 0 ≤ i) (h8 : i < 8) (h : ∀ p : Int, 0 < p → p < 2 ^ 62 → Q (.int p) H) : rIx K (.ref a) (.int i) H Q := by
  obtain ⟨p, g, p1, p2⟩ := pr_at (j := i.toNat) (by omega)
  exact o_ixL (lst_of e) (atI_of (j := i.toNat) (by omega) (v := .int p) (by rw [List.getElem?_map, g]; rfl)) (h p p1 p2)
/-- an int out of a list of ints -/
theorem ix_int {K : PySem.W.Frag} {H : Hp} {Q : VK} {a : Addr} {xs : List Int} {i : Int} (hs : SqL K H a (xs.map V.int)) (h0 : 0 ≤ i) (h1 : i < xs.length) (h : ∀ x : Int, xs[i.toNat]? = some x → Q (.int x) H) : rIx K (.ref a) (.int i) H Q := by
  have e := List.getElem?_eq_getElem (l := xs) (i := i.toNat) (by omega)
  exact o_ixL hs (atI_of (j := i.toNat) (by omega) (v := .int xs[i.toNat]) (by rw [List.getElem?_map, e]; rfl)) (h _ e)
def spCellN (K : PySem.W.Frag) : Sp := fun vs H Q _ => ∃ (a : Addr) (ns : List Int) (k : Int), vs = [.ref a, .int k] ∧ SqL K H a (ns.map V.int) ∧ ∀ r : Int, Q (.int r) H
def spDraws (K : PySem.W.Frag) : Sp := fun vs H Q _ => ∃ (a b : Addr) (ns ss : List Int) (k : Int), vs = [.ref a, .int k, .ref b] ∧ SqL K H a (ns.map V.int) ∧ SqL K H b (ss.map V.int) ∧ SzOk ss ∧
  ∀ p H' ds, Same H H' → H p = none → H' p = some (.lst ((ds : List Int).map V.int)) → Dr ds ss → Q (.ref p) H'
/-! ### lists and tuples alike -/
def iSeq (K : PySem.W.Frag) (te : TE) : TI := fun σ H R => iList K te σ H R ∨ iTup K te σ H R
theorem pi_seq {X : Cx} {tg e : Expr} {te : TE} (h : PE X e te) : PI X tg e (iSeq X.K te) := ⟨fun pins s σ H R I q => q.elim (fun q => (pi_list h).run pins s σ H R I q) (fun q => (pi_tup h).run pins s σ H R I q)⟩
theorem w_sl {K : PySem.W.Frag} {te : TE} {σ : L2.St} {H : Hp} {R : It → Hp → Prop} (h : te σ H fun x H1 => KL K x H1 R) : iSeq K te σ H R := .inl h
theorem w_st {K : PySem.W.Frag} {te : TE} {σ : L2.St} {H : Hp} {R : It → Hp → Prop} (h : te σ H fun x H1 => KT K x H1 R) : iSeq K te σ H R := .inr h
def Sq (K : PySem.W.Frag) (H : Hp) (a : Addr) (xs : List V) : Prop := SqL K H a xs ∨ SqT K H a xs
theorem Sq.same {K : PySem.W.Frag} {H H' : Hp} {a : Addr} {xs : List V} (h : Sq K H a xs) (s : Same H H') : Sq K H' a xs := h.imp (fun h => s.seq h) fun h => seqT s h
/-- an iterator over such -/
def SqIt (K : PySem.W.Frag) (a : Addr) (xs : List V) (J : It) (H : Hp) : Prop := (J = Itl K a ∧ SqL K H a xs) ∨ (J = Itt K a ∧ SqT K H a xs)
theorem SqIt.same {K : PySem.W.Frag} {H H' : Hp} {a : Addr} {xs : List V} {J : It} (h : SqIt K a xs J H) (s : Same H H') : SqIt K a xs J H' := h.imp (fun h => ⟨h.1, s.seq h.2⟩) fun h => ⟨h.1, seqT s h.2⟩
section
variable {K : PySem.W.Frag} {σ : L2.St} {H : Hp} {Q : VK} {D : Ends} {t : TS} {te : TE} {tt : TT} {g : TG} {a : Addr} {xs : List V} {vs : List Nat} {i : Nat} {J : It}
/-- for x in v, v a slot -/
theorem w_sq {R : It → Hp → Prop} (hs : Sq K H a xs) (e : σ[i]? = some (some (.ref a))) (h : ∀ J, SqIt K a xs J H → R J H) : iSeq K (tVar i) σ H R := by
  rcases hs with hs | hs
  · exact .inl (w_l (e_var e (k_l hs (h _ (.inl ⟨rfl, hs⟩)))))
  · exact .inr (w_t (e_var e (k_t hs (h _ (.inr ⟨rfl, hs⟩)))))
theorem f_sq {H0 : Hp} (hJ : SqIt K a xs J H0) (Pv : Nat → L2.St → Hp → Prop) (h0 : Pv 0 σ H) (hl : ∀ i σ H, Pv i σ H → Same H0 H)
    (hs : ∀ i x σ H, xs[i]? = some x → Pv i σ H → g x σ H fun σ2 H2 => t ⟨Pv (i + 1), D.rt, D.nx, Pv (i + 1)⟩ σ2 H2) (hd : ∀ σ H, Pv xs.length σ H → D.nx σ H) : LoopF J g t D σ H := by
  rcases hJ with ⟨rfl, hJ⟩ | ⟨rfl, hJ⟩
  · exact f_list Pv h0 (fun i σ H _ p => (hl i σ H p).seq hJ) hs hd
  · exact f_tup Pv h0 (fun i σ H _ p => seqT (hl i σ H p) hJ) hs hd
/-- a list comprehension: what is taken so far -/
theorem c_acc (hJ : SqIt K a xs J H) (R : Nat → List V → Hp → Prop) (mono : ∀ i acc H H', TK H H' → R i acc H → R i acc H') (small : ∀ i acc H, i ≤ xs.length → R i acc H → acc.length < sizeLine) (r0 : R 0 [] H)
    (step : ∀ i x H1 acc (N : VK) (M : Hp → Prop), xs[i]? = some x → Same H H1 → R i acc H1 → (∀ y H3, Same H1 H3 → R (i + 1) (acc ++ [y]) H3 → N y H3) → (∀ H3, Same H1 H3 → R (i + 1) acc H3 → M H3) →
      g x (wipe σ vs) H1 fun σ2 H2 => wipe σ2 vs = wipe σ vs ∧ tt σ2 H2 fun b H3 => if b = true then te σ2 H3 N else M H3)
    (post : ∀ D H2 ys, H D = none → Same H H2 → H2 D = some (.lst ys) → R xs.length ys H2 → Q (.ref D) H2) : LoopC J g tt te vs σ H Q := by
  have key : ∀ (D : Addr) (i : Nat) (x : V) (H1 : Hp), xs[i]? = some x → H D = none → (Same H H1 ∧ ∃ acc, H1 D = some (.lst acc) ∧ R i acc H1) → g x (wipe σ vs) H1 fun σ2 H2 => wipe σ2 vs = wipe σ vs ∧ tt σ2 H2 fun b H3 =>
      if b = true then te σ2 H3 fun y H4 => COut D y H4 (fun H5 => Same H H5 ∧ ∃ acc, H5 D = some (.lst acc) ∧ R (i + 1) acc H5) else (fun H5 => Same H H5 ∧ ∃ acc, H5 D = some (.lst acc) ∧ R (i + 1) acc H5) H3 := by
    intro D i x H1 hx nD ⟨s1, acc, e1, r1⟩
    have hi := (List.getElem?_eq_some_iff.mp hx).1
    refine step i x H1 acc _ _ hx s1 r1 (fun y H3 s3 r3 => ?_) (fun H3 s3 r3 => ⟨s1.trans s3, acc, s3 _ _ e1, r3⟩)
    refine c_out (s3 _ _ e1) (small i acc H1 (by omega) r1) fun H4 c4 e4 => ⟨c4.same (s1.trans s3) nD, _, e4, mono _ _ _ _ (c4.tk (s3 _ _ e1)) r3⟩
  have p0 : ∀ (D : Addr) (H1 : Hp), H D = none → Same H H1 → H1 D = some (.lst []) → (Same H H1 ∧ ∃ acc, H1 D = some (.lst acc) ∧ R 0 acc H1) := fun D H1 nD s1 e1 => ⟨s1, [], e1, mono _ _ _ _ s1.tk r0⟩
  have pe : ∀ (D : Addr) (H1 : Hp), H D = none → (Same H H1 ∧ ∃ acc, H1 D = some (.lst acc) ∧ R xs.length acc H1) → Q (.ref D) H1 := fun D H1 nD ⟨s1, acc, e1, r1⟩ => post D H1 acc nD s1 e1 r1
  rcases hJ with ⟨rfl, hJ⟩ | ⟨rfl, hJ⟩
  · exact c_list (fun D i H1 => Same H H1 ∧ ∃ acc, H1 D = some (.lst acc) ∧ R i acc H1) p0 (fun D i H1 _ _ p => p.1.seq hJ) (fun D i x H1 hx nD p => key D i x H1 hx nD p) pe
  · exact fun D nD => lc_tup (fun i H1 => Same H H1 ∧ ∃ acc, H1 D = some (.lst acc) ∧ R i acc H1) (p0 D _ nD (same_new nD) upd_same) (fun i H1 _ p => seqT p.1 hJ) (fun i x H1 hx p => key D i x H1 hx nD p) fun H1 p => pe D H1 nD p
theorem c_accR {lo : Int} {n : Nat} (R : Nat → List V → Hp → Prop) (mono : ∀ i acc H H', TK H H' → R i acc H → R i acc H') (small : ∀ i acc H, i ≤ n → R i acc H → acc.length < sizeLine) (r0 : R 0 [] H)
    (step : ∀ i H1 acc (N : VK) (M : Hp → Prop), i < n → Same H H1 → R i acc H1 → (∀ y H3, Same H1 H3 → R (i + 1) (acc ++ [y]) H3 → N y H3) → (∀ H3, Same H1 H3 → R (i + 1) acc H3 → M H3) →
      g (.int (lo + i)) (wipe σ vs) H1 fun σ2 H2 => wipe σ2 vs = wipe σ vs ∧ tt σ2 H2 fun b H3 => if b = true then te σ2 H3 N else M H3)
    (post : ∀ D H2 ys, H D = none → Same H H2 → H2 D = some (.lst ys) → R n ys H2 → Q (.ref D) H2) : LoopC (Itr lo n) g tt te vs σ H Q := by
  refine c_range (fun D i H1 => Same H H1 ∧ ∃ acc, H1 D = some (.lst acc) ∧ R i acc H1) (fun D H1 nD s1 e1 => ⟨s1, [], e1, mono _ _ _ _ s1.tk r0⟩) (fun D i H1 hi nD p => ?_) (fun D H1 nD ⟨s1, acc, e1, r1⟩ => post D H1 acc nD s1 e1 r1)
  obtain ⟨s1, acc, e1, r1⟩ := p
  refine step i H1 acc _ _ hi s1 r1 (fun y H3 s3 r3 => ?_) (fun H3 s3 r3 => ⟨s1.trans s3, acc, s3 _ _ e1, r3⟩)
  refine c_out (s3 _ _ e1) (small i acc H1 (by omega) r1) fun H4 c4 e4 => ⟨c4.same (s1.trans s3) nD, _, e4, mono _ _ _ _ (c4.tk (s3 _ _ e1)) r3⟩
end
/-- one value an item -/
def One (P : Nat → V → Hp → Prop) (i : Nat) (acc : List V) (H : Hp) : Prop := acc.length = i ∧ ∀ j y, acc[j]? = some y → P j y H
theorem One.zero {P : Nat → V → Hp → Prop} {H : Hp} : One P 0 [] H := ⟨rfl, fun j y e => by cases e⟩
theorem One.snoc {P : Nat → V → Hp → Prop} {i : Nat} {acc : List V} {H H3 : Hp} {y : V} (mono : ∀ j z, P j z H → P j z H3) (o : One P i acc H) (h : P i y H3) : One P (i + 1) (acc ++ [y]) H3 := by
  refine ⟨by rw [List.length_append, o.1]; rfl, fun j z e => ?_⟩
  by_cases hj : j < acc.length
  · rw [List.getElem?_append_left hj] at e
    exact mono _ _ (o.2 j z e)
  · have hj2 := (List.getElem?_eq_some_iff.mp e).1
    rw [List.length_append, List.length_singleton] at hj2
    have : j = acc.length := by omega
    subst this
    rw [List.getElem?_append_right (Nat.le_refl _), Nat.sub_self] at e
    cases e
    rw [o.1]
    exact h
/-- the list is known from its items -/
theorem One.eq {P : Nat → V → Hp → Prop} {α : Type} {F : α → V} {xs : List α} {acc : List V} {H : Hp} (o : One P xs.length acc H) (h : ∀ j y, j < xs.length → P j y H → xs[j]?.map F = some y) : acc = xs.map F := by
  refine List.ext_getElem? fun j => ?_
  by_cases hj : j < xs.length
  · have hj2 : j < acc.length := by rw [o.1]; exact hj
    rw [List.getElem?_map, h j _ hj (o.2 j acc[j] (List.getElem?_eq_getElem hj2)), List.getElem?_eq_getElem hj2]
  · rw [List.getElem?_eq_none (by rw [o.1]; omega), List.getElem?_eq_none (by rw [List.length_map]; omega)]
theorem One.eqR {P : Nat → V → Hp → Prop} {n : Nat} {F : Nat → V} {acc : List V} {H : Hp} (o : One P n acc H) (h : ∀ j y, j < n → P j y H → y = F j) : acc = (List.range n).map F := by
  refine One.eq (xs := List.range n) (F := F) (by rw [List.length_range]; exact o) fun j y hj p => ?_
  rw [List.length_range] at hj
  rw [List.getElem?_range hj, h j y hj p]
  rfl
theorem One.ints {P : Nat → V → Hp → Prop} {n : Nat} {acc : List V} {H : Hp} (o : One P n acc H) (h : ∀ j y, j < n → P j y H → ∃ i : Int, y = .int i) : ∃ xs : List Int, acc = xs.map V.int ∧ xs.length = n := by
  have key : ∀ acc : List V, (∀ y ∈ acc, ∃ i : Int, y = .int i) → ∃ xs : List Int, acc = xs.map V.int := by
    intro acc
    induction acc with
    | nil => exact fun _ => ⟨[], rfl⟩
    | cons y r ih =>
      intro h
      obtain ⟨i, rfl⟩ := h y List.mem_cons_self
      obtain ⟨xs, rfl⟩ := ih fun z hz => h z (List.mem_cons_of_mem _ hz)
      exact ⟨i :: xs, rfl⟩
  obtain ⟨xs, e⟩ := key acc fun y hy => by
    obtain ⟨j, hj, e⟩ := List.getElem_of_mem hy
    exact h j y (by rw [← o.1]; exact hj) (o.2 j y (by rw [List.getElem?_eq_getElem hj, e]))
  exact ⟨xs, e, by rw [← o.1, e, List.length_map]⟩
/-- `xs` with the pattern n times -/
theorem One.const {n : Nat} {acc : List V} {H : Hp} {v : V} (o : One (fun _ y _ => y = v) n acc H) : acc = List.replicate n v := by
  refine List.ext_getElem? fun j => ?_
  rw [List.getElem?_replicate]
  by_cases hj : j < n
  · rw [if_pos hj, List.getElem?_eq_getElem (by rw [o.1]; exact hj), o.2 j _ (List.getElem?_eq_getElem (by rw [o.1]; exact hj))]
  · rw [if_neg hj, List.getElem?_eq_none (by rw [o.1]; omega)]
end WN
/-! WQ: data that is equal. -/
namespace WQ
open PySem PySem.Spec PyProof.Rows L2 Wy WN
mutual
/-- no truth value in it -/
def nb : PyData → Bool
  | .none => true
  | .bool _ => false
  | .int _ => true
  | .str _ => true
  | .list xs => nbAll xs
  | .tuple xs => nbAll xs
  | .dict _ => false
def nbAll : List PyData → Bool
  | [] => true
  | x :: xs => nb x && nbAll xs
end
mutual
theorem eqv_iff : ∀ (d e : PyData), nb d = true → nb e = true → (PyData.eqv d e = true ↔ d = e)
  | .none, e, _, h => by cases e <;> simp [PyData.eqv, nb] at h ⊢
  | .bool _, _, h, _ => by simp [nb] at h
  | .int i, e, _, h => by cases e <;> simp [PyData.eqv, nb] at h ⊢
  | .str x, e, _, h => by cases e <;> simp [PyData.eqv, nb] at h ⊢
  | .list xs, e, h, h' => by
    cases e with
    | list ys =>
      have ih := eqvAll_iff xs ys (by simpa [nb] using h) (by simpa [nb] using h')
      simp [PyData.eqv, ih]
    | _ => simp [PyData.eqv, nb] at h' ⊢
  | .tuple xs, e, h, h' => by
    cases e with
    | tuple ys =>
      have ih := eqvAll_iff xs ys (by simpa [nb] using h) (by simpa [nb] using h')
      simp [PyData.eqv, ih]
    | _ => simp [PyData.eqv, nb] at h' ⊢
  | .dict _, _, h, _ => by simp [nb] at h
theorem eqvAll_iff : ∀ (xs ys : List PyData), nbAll xs = true → nbAll ys = true → (PyData.eqvAll xs ys = true ↔ xs = ys)
  | [], [], _, _ => by simp [PyData.eqvAll]
  | [], _ :: _, _, _ => by simp [PyData.eqvAll]
  | _ :: _, [], _, _ => by simp [PyData.eqvAll]
  | x :: xs, y :: ys, h, h' => by
    simp only [nbAll, Bool.and_eq_true] at h h'
    have i1 := eqv_iff x y h.1 h'.1
    have i2 := eqvAll_iff xs ys h.2 h'.2
    simp [PyData.eqvAll, i1, i2]
end
theorem shaped_of {d : PyData} (h : d.canLay0 = true) (h2 : d.depth ≤ 64) : SeqAt.shaped d = true := by
  unfold SeqAt.shaped
  rw [h, decide_eq_true h2]
  rfl
section
variable {K : PySem.W.Frag} {H : Hp} {Q : VK} {x y : V} {d e : PyData}
theorem eq_same (h1 : Dp K H x d) (h2 : Dp K H y d) (hs : SeqAt.shaped d = true) (h : Q (.bl true) H) : rEq2 K x y H Q := by
  refine o_eqD h1 h2 hs hs ?_
  rw [SeqAt.eqv_refl _ (SeqAt.canLay_of_shaped hs)]
  exact h
theorem ne_same (h1 : Dp K H x d) (h2 : Dp K H y d) (hs : SeqAt.shaped d = true) (h : Q (.bl false) H) : rNe2 K x y H Q := by
  refine o_neD h1 h2 hs hs ?_
  rw [SeqAt.eqv_refl _ (SeqAt.canLay_of_shaped hs)]
  exact h
theorem eq_nb (h1 : Dp K H x d) (h2 : Dp K H y e) (hs : SeqAt.shaped d = true) (hs2 : SeqAt.shaped e = true) (n1 : nb d = true) (n2 : nb e = true) (hy : d = e → Q (.bl true) H) (hn : d ≠ e → Q (.bl false) H) : rEq2 K x y H Q := by
  refine o_eqD h1 h2 hs hs2 ?_
  have i := eqv_iff d e n1 n2
  cases q : PyData.eqv d e with
  | true => exact hy (i.mp q)
  | false => exact hn fun z => by rw [i.mpr z] at q; cases q
theorem ne_nb (h1 : Dp K H x d) (h2 : Dp K H y e) (hs : SeqAt.shaped d = true) (hs2 : SeqAt.shaped e = true) (n1 : nb d = true) (n2 : nb e = true) (hy : d = e → Q (.bl false) H) (hn : d ≠ e → Q (.bl true) H) : rNe2 K x y H Q := by
  refine o_neD h1 h2 hs hs2 ?_
  have i := eqv_iff d e n1 n2
  cases q : PyData.eqv d e with
  | true => exact hy (i.mp q)
  | false => exact hn fun z => by rw [i.mpr z] at q; cases q
end
theorem lay_all {α : Type} (F : α → PyData) : ∀ xs : List α, (∀ x ∈ xs, (F x).canLay0 = true) → PyData.canLayAll0 (xs.map F) = true
  | [], _ => by simp [PyData.canLayAll0]
  | x :: xs, h => by simp [PyData.canLayAll0, h x List.mem_cons_self, lay_all F xs fun y hy => h y (List.mem_cons_of_mem _ hy)]
theorem dep_all {α : Type} (F : α → PyData) (n : Nat) : ∀ xs : List α, (∀ x ∈ xs, (F x).depth ≤ n) → PyData.depthAll (xs.map F) ≤ n
  | [], _ => by simp [PyData.depthAll]
  | x :: xs, h => by
    have h1 := h x List.mem_cons_self
    have h2 := dep_all F n xs fun y hy => h y (List.mem_cons_of_mem _ hy)
    simp only [List.map_cons, PyData.depthAll]
    omega
theorem nb_all {α : Type} (F : α → PyData) : ∀ xs : List α, (∀ x ∈ xs, nb (F x) = true) → nbAll (xs.map F) = true
  | [], _ => by simp [nbAll]
  | x :: xs, h => by simp [nbAll, h x List.mem_cons_self, nb_all F xs fun y hy => h y (List.mem_cons_of_mem _ hy)]
theorem shL {α : Type} (F : α → PyData) (xs : List α) (n : Nat) (hn : n < 64) (h : ∀ x ∈ xs, (F x).canLay0 = true ∧ (F x).depth ≤ n) : SeqAt.shaped (.list (xs.map F)) = true :=
  shaped_of (by simp [PyData.canLay0, lay_all F xs fun x hx => (h x hx).1]) (by have := dep_all F n xs fun x hx => (h x hx).2; simp only [PyData.depth]; omega)
theorem shT {α : Type} (F : α → PyData) (xs : List α) (n : Nat) (hn : n < 64) (h : ∀ x ∈ xs, (F x).canLay0 = true ∧ (F x).depth ≤ n) : SeqAt.shaped (.tuple (xs.map F)) = true :=
  shaped_of (by simp [PyData.canLay0, lay_all F xs fun x hx => (h x hx).1]) (by have := dep_all F n xs fun x hx => (h x hx).2; simp only [PyData.depth]; omega)
theorem lay_int (i : Int) : (PyData.int i).canLay0 = true ∧ (PyData.int i).depth ≤ 0 := ⟨by simp [PyData.canLay0], by simp [PyData.depth]⟩
theorem lay_bool (b : Bool) : (PyData.bool b).canLay0 = true ∧ (PyData.bool b).depth ≤ 0 := ⟨by simp [PyData.canLay0], by simp [PyData.depth]⟩
theorem lay_tup {ds : List PyData} {n : Nat} (h : ∀ x ∈ ds, x.canLay0 = true ∧ x.depth ≤ n) : (PyData.tuple ds).canLay0 = true ∧ (PyData.tuple ds).depth ≤ n + 1 := by
  have h1 := lay_all id ds fun x hx => (h x hx).1
  have h2 := dep_all id n ds fun x hx => (h x hx).2
  rw [List.map_id] at h1 h2
  exact ⟨by simp [PyData.canLay0, h1], by simp only [PyData.depth]; omega⟩
/-! values to data -/
theorem dp_ints {K : PySem.W.Frag} {H : Hp} : ∀ xs : List Int, DpAll K H (xs.map V.int) (xs.map PyData.int)
  | [] => .nil
  | x :: xs => .cons (.int x) (dp_ints xs)
theorem dp_bls {K : PySem.W.Frag} {H : Hp} : ∀ xs : List Bool, DpAll K H (xs.map V.bl) (xs.map PyData.bool)
  | [] => .nil
  | x :: xs => .cons (.bl x) (dp_bls xs)
theorem tp_ints {H : Hp} : ∀ xs : List Int, TpAll H (xs.map V.int) (xs.map PyData.int)
  | [] => .nil
  | x :: xs => .cons (.int x) (tp_ints xs)
theorem ints_tp {H : Hp} : ∀ {xs : List Int} {vs : List V}, TpAll H vs (xs.map PyData.int) → vs = xs.map V.int
  | [], _, h => by cases h; rfl
  | x :: xs, _, h => by
    cases h with
    | cons h1 h2 =>
      cases h1
      rw [ints_tp h2]
      rfl
theorem tpGet {α : Type} {F : α → PyData} {H : Hp} {us : List V} {xs : List α} {i : Nat} {u : V} (t : TpAll H us (xs.map F)) (e : us[i]? = some u) : ∃ x, xs[i]? = some x ∧ Tp H u (F x) := by
  have hl := t.length
  rw [List.length_map] at hl
  have hi := (List.getElem?_eq_some_iff.mp e).1
  have hx : xs[i]? = some xs[i] := List.getElem?_eq_getElem (by omega)
  obtain ⟨v, e2, tv⟩ := t.get (i := i) (d := F xs[i]) (by rw [List.getElem?_map, hx]; rfl)
  rw [e] at e2
  cases e2
  exact ⟨_, hx, tv⟩
theorem tpAt {α : Type} {F : α → PyData} {H : Hp} {us : List V} {xs : List α} {i : Nat} {x : α} (t : TpAll H us (xs.map F)) (e : xs[i]? = some x) : ∃ u, us[i]? = some u ∧ Tp H u (F x) :=
  t.get (by rw [List.getElem?_map, e]; rfl)
theorem tp3 {H : Hp} {v : V} {d1 d2 d3 : PyData} (h : Tp H v (.tuple [d1, d2, d3])) : ∃ a v1 v2 v3, v = .ref a ∧ H a = some (.tup [v1, v2, v3]) ∧ Tp H v1 d1 ∧ Tp H v2 d2 ∧ Tp H v3 d3 := by
  cases h with
  | tup e r =>
    cases r with | cons h1 r => cases r with | cons h2 r => cases r with | cons h3 r =>
      cases r
      exact ⟨_, _, _, _, rfl, e, h1, h2, h3⟩
theorem tp2 {H : Hp} {v : V} {d1 d2 : PyData} (h : Tp H v (.tuple [d1, d2])) : ∃ a v1 v2, v = .ref a ∧ H a = some (.tup [v1, v2]) ∧ Tp H v1 d1 ∧ Tp H v2 d2 := by
  cases h with
  | tup e r =>
    cases r with | cons h1 r => cases r with | cons h2 r =>
      cases r
      exact ⟨_, _, _, rfl, e, h1, h2⟩
theorem tpL {H : Hp} {v : V} {ds : List PyData} (h : Tp H v (.tuple ds)) : ∃ a vs, v = .ref a ∧ H a = some (.tup vs) ∧ TpAll H vs ds := by
  cases h with
  | tup e r => exact ⟨_, _, rfl, e, r⟩
theorem tpSnoc {H : Hp} {us : List V} {ds : List PyData} {v : V} {d : PyData} (t : TpAll H us ds) (h : Tp H v d) : TpAll H (us ++ [v]) (ds ++ [d]) := by
  induction us generalizing ds with
  | nil => cases t; exact .cons h .nil
  | cons u r ih => cases t with | cons a b => exact .cons a (ih b)
theorem tpApp {H : Hp} {us vs : List V} {ds es : List PyData} (t : TpAll H us ds) (h : TpAll H vs es) : TpAll H (us ++ vs) (ds ++ es) := by
  induction us generalizing ds with
  | nil => cases t; exact h
  | cons u r ih => cases t with | cons a b => exact .cons a (ih b)
theorem tpOf {H : Hp} : ∀ {us : List V} {ds : List PyData}, us.length = ds.length → (∀ (j : Nat) (y : V) (d : PyData), us[j]? = some y → ds[j]? = some d → Tp H y d) → TpAll H us ds
  | [], [], _, _ => .nil
  | [], _ :: _, h, _ => by simp at h
  | _ :: _, [], h, _ => by simp at h
  | u :: us, d :: ds, h, g => .cons (g 0 u d rfl rfl) (tpOf (by simpa using h) fun j y d a b => g (j + 1) y d (by simpa using a) (by simpa using b))
/-- one by one over a range -/
theorem tpOne {P : Nat → V → Hp → Prop} {F : Nat → PyData} {n : Nat} {us : List V} {H : Hp} (o : One P n us H) (h : ∀ j y, j < n → P j y H → Tp H y (F j)) : TpAll H us ((List.range n).map F) :=
  tpOf (by rw [o.1, List.length_map, List.length_range]) fun j y d a b => by
    have hj : j < n := by have := (List.getElem?_eq_some_iff.mp a).1; rw [o.1] at this; exact this
    rw [List.getElem?_map, List.getElem?_range hj] at b
    cases b
    exact h j y hj (o.2 j y a)
/-- tuples of ints -/
def iT (xs : List Int) : PyData := .tuple (xs.map .int)
theorem tpI {H : Hp} {v : V} {xs : List Int} (h : Tp H v (iT xs)) : ∃ a, v = .ref a ∧ H a = some (.tup (xs.map V.int)) := by
  obtain ⟨a, vs, rfl, e, t⟩ := tpL h
  rw [ints_tp t] at e
  exact ⟨a, rfl, e⟩
theorem iT_tp {H : Hp} {a : Addr} {xs : List Int} (e : H a = some (.tup (xs.map V.int))) : Tp H (.ref a) (iT xs) := .tup e (tp_ints xs)
theorem iT_lay (xs : List Int) : (iT xs).canLay0 = true ∧ (iT xs).depth ≤ 1 := lay_tup fun x hx => by
  obtain ⟨i, _, rfl⟩ := List.mem_map.mp hx
  exact lay_int i
theorem nb_int : ∀ xs : List Int, nbAll (xs.map PyData.int) = true
  | [] => rfl
  | x :: xs => by simp [nbAll, nb, nb_int xs]
theorem iT_nb (xs : List Int) : nb (iT xs) = true := by
  show nbAll _ = true
  exact nb_int xs
end WQ
/-! WS: differences and values. -/
namespace WS
open PySem PySem.Spec PyProof.Rows L2 Wy WN WQ
abbrev Df := Int × Int × Int
def dfD (d : Df) : PyData := .tuple [.int d.1, .int d.2.1, .int d.2.2]
theorem dfD_lay (d : Df) : (dfD d).canLay0 = true ∧ (dfD d).depth ≤ 1 := lay_tup (n := 0) fun x hx => by
  simp only [List.mem_cons, List.not_mem_nil, or_false] at hx
  rcases hx with rfl | rfl | rfl <;> exact lay_int _
theorem dfD_nb (d : Df) : nb (dfD d) = true := rfl
/-- the value of a node -/
def lv (vs : List Int) (n : Int) : Int := (0 :: vs).getD n.toNat 0
def kept (vs : List Int) (d : Df) : Bool := decide (lv vs d.1 - lv vs d.2.1 ≤ d.2.2)
def InR (n : Nat) (d : Df) : Prop := 0 ≤ d.1 ∧ d.1 ≤ n ∧ 0 ≤ d.2.1 ∧ d.2.1 ≤ n
theorem lv_at {vs : List Int} {n : Int} (h0 : 0 ≤ n) (h1 : n ≤ vs.length) : ((0 :: vs).map V.int)[n.toNat]? = some (.int (lv vs n)) := by
  have : n.toNat < (0 :: vs).length := by rw [List.length_cons]; omega
  rw [List.getElem?_map, List.getElem?_eq_getElem this]
  unfold lv
  rw [List.getD_eq_getElem?_getD, List.getElem?_eq_getElem this]
  rfl
section
variable {K : PySem.W.Frag} {H : Hp} {Q : VK} {a : Addr} {xs : List V} {x y z : V}
theorem ix_lv {vs : List Int} {n : Int} (hs : SqL K H a ((0 :: vs).map V.int)) (h0 : 0 ≤ n) (h1 : n ≤ vs.length) (h : Q (.int (lv vs n)) H) : rIx K (.ref a) (.int n) H Q := o_ixL hs (atI_of (j := n.toNat) (by omega) (lv_at h0 h1)) h
theorem b_allT (hs : SqL K H a xs) (hx : ∀ (j : Nat) (y : V), xs[j]? = some y → y = .bl true) (h : Q (.bl true) H) : rAll2 K [.ref a] H Q := by
  have e : xs = (List.replicate xs.length true).map V.bl := by
    refine List.ext_getElem? fun j => ?_
    rw [List.getElem?_map, List.getElem?_replicate]
    by_cases hj : j < xs.length
    · rw [if_pos hj, List.getElem?_eq_getElem hj, hx j _ (List.getElem?_eq_getElem hj)]
      rfl
    · rw [if_neg hj, List.getElem?_eq_none (by omega)]
      rfl
  rw [e] at hs
  refine b_all hs ?_
  have : (List.replicate xs.length true).all id = true := by simp
  rw [this]
  exact h
/-- all of truths that are known one by one -/
theorem b_allM {α : Type} {ds : List α} {f : α → Bool} (hs : SqL K H a (ds.map fun d => V.bl (f d))) (h : Q (.bl (ds.all f)) H) : rAll2 K [.ref a] H Q := by
  have e : ds.map (fun d => V.bl (f d)) = (ds.map f).map V.bl := by rw [List.map_map]; rfl
  rw [e] at hs
  refine b_all hs ?_
  have : (ds.map f).all id = ds.all f := by rw [List.all_map]; rfl
  rw [this]
  exact h
theorem b_len0 (hs : SqL K H a []) (h : Q (.int 0) H) : rLn K [.ref a] H Q := b_lenL hs h
theorem b_lenT0 (hs : SqT K H a []) (h : Q (.int 0) H) : rLn K [.ref a] H Q := b_lenT hs h
theorem b_lenT1 (hs : SqT K H a [x]) (h : Q (.int 1) H) : rLn K [.ref a] H Q := b_lenT hs h
theorem b_lenT2 (hs : SqT K H a [x, y]) (h : Q (.int 2) H) : rLn K [.ref a] H Q := b_lenT hs h
theorem b_lenT3 (hs : SqT K H a [x, y, z]) (h : Q (.int 3) H) : rLn K [.ref a] H Q := b_lenT hs h
end
def spIsInt : Sp := fun vs H Q _ => ∃ i : Int, vs = [.int i] ∧ Q (.bl true) H
/-- all differences kept by values -/
def spKept (K : PySem.W.Frag) : Sp := fun vs H Q _ => ∃ (a b : Addr) (us : List V) (ds : List Df) (vals : List Int), vs = [.ref a, .ref b] ∧ Sq K H a us ∧ TpAll H us (ds.map dfD) ∧ H b = some (.lst (vals.map V.int)) ∧ (∀ d ∈ ds, InR vals.length d) ∧
  ds.length ≤ 1000 ∧ vals.length ≤ 900 ∧ ∀ H', Same H H' → Q (.bl (ds.all (kept vals))) H'
end WS
/-! WC: sequences of either kind, and chains. -/
namespace WC
open PySem PySem.Spec PyProof.Rows L2 Wy WN WQ WS
abbrev tStar := StX.tStar
theorem pa_star {X : Cx} {e : Expr} {es : List Expr} {p : Pos} {te : TE} {t : TA} (he : PE X e te) (hr : PA X es t) (hs : starEach (.Starred e p :: es) X.env = (true, eval e X.env) :: starEach es X.env := by rfl) : PA X (.Starred e p :: es) (tStar X.K te t) := StX.pa_star he hr hs
theorem ixN_of {n : Nat} {k : Int} (h0 : 0 ≤ k) (h1 : k < n) : ixN n k = some k.toNat := by
  obtain ⟨j, rfl⟩ : ∃ j : Nat, k = j := ⟨k.toNat, by omega⟩
  rw [ixN_nat (by omega), Int.toNat_natCast]
theorem erase_perm {α : Type} : ∀ {xs : List α} {i : Nat} {x : α}, xs[i]? = some x → (x :: xs.eraseIdx i).Perm xs
  | [], _, _, h => by cases h
  | y :: xs, 0, x, h => by
    cases h
    exact .refl _
  | y :: xs, i + 1, x, h => (List.Perm.swap y x _).trans ((erase_perm (xs := xs) (i := i) h).cons y)
theorem take_sum1 {ws : List Int} {i : Nat} {w : Int} (h : ws[i]? = some w) : (ws.take (i + 1)).sum = (ws.take i).sum + w := by
  rw [List.take_succ, h, List.sum_append]
  simp
theorem nd_inj {α : Type} {xs : List α} {i j : Nat} {x : α} (nd : xs.Nodup) (h1 : xs[i]? = some x) (h2 : xs[j]? = some x) : i = j := by
  have l1 := (List.getElem?_eq_some_iff.mp h1).1
  exact (List.getElem?_inj l1 nd).mp (h1.trans h2.symm)
theorem tpIns {H : Hp} {v : V} {d : PyData} : ∀ {i : Nat} {us : List V} {ds : List PyData}, TpAll H us ds → Tp H v d → TpAll H (us.take i ++ [v] ++ us.drop i) (ds.take i ++ [d] ++ ds.drop i)
  | 0, us, ds, t, h => .cons h t
  | i + 1, _, _, .nil, h => .cons h .nil
  | i + 1, _, _, .cons a b, h => .cons a (tpIns (i := i) b h)
theorem tpTake {H : Hp} : ∀ {i : Nat} {us : List V} {ds : List PyData}, TpAll H us ds → TpAll H (us.take i) (ds.take i)
  | 0, us, ds, t => .nil
  | i + 1, _, _, .nil => .nil
  | i + 1, _, _, .cons a b => .cons a (tpTake (i := i) b)
theorem tpRev {H : Hp} : ∀ {us : List V} {ds : List PyData}, TpAll H us ds → TpAll H us.reverse ds.reverse
  | _, _, .nil => .nil
  | _, _, .cons a b => by
    rw [List.reverse_cons, List.reverse_cons]
    exact tpSnoc (tpRev b) a
section
variable {X : Cx}
theorem pe_bmK {K : PySem.W.Frag} {o e : Expr} {es : List Expr} {to : TE} {t : TA} {name : Str} {apos cpos : Pos} {T id : String} {r : V → List V → Hp → VK → Prop}
    (pa : PlainAttrs T) (slot : Slot T name id) (hty : typeOf (.builtin id) = pure (.type "method_descriptor")) (hm : MtR X id r) (ho : PE X o to) (ha : PA X (e :: es) t) (hK : X.K = K := by rfl)
    (hbase : attributeBase o name X.env (eval o X.env) = eval o X.env := by rfl)
    (hfew : ((backTo cpos (starEach (e :: es) X.env)).all (fun x => !x.1) && (backToKw cpos (keywordEach [] X.env)).all (fun x => x.1.isSome)
      && decide ((e :: es).length + ([] : List Keyword).length + (if ([] : List Keyword).isEmpty then 0 else 1) < 30)) = true := by rfl)
    (hline : (apos.endLine == cpos.line) = true := by rfl) (hs : starEach (e :: es) X.env = (false, eval e X.env) :: starEach es X.env := by rfl) (hplain : (backTo cpos (starEach es X.env)).any (·.1) = false := by rfl) :
    PE X (.Call (.Attribute o name apos) (e :: es) [] cpos) (tBM K T r to t) := hK ▸ pe_bm pa slot hty hm ho ha hbase hfew hline hs hplain
def rSl3 (K : PySem.W.Frag) : V → Option Int → Option Int → Hp → VK → Prop := fun x lo hi H Q => rSl2 K x lo hi H Q ∨ rSlA K x lo hi H Q
theorem sl_3 : SlR X (rSl3 X.K) := sl_2.or sl_tupA
def rIns : V → List V → Hp → VK → Prop := fun x vs H Q => ∃ (l : Addr) (xs : List V) (i : Int) (y : V), x = .ref l ∧ vs = [.int i, y] ∧ H l = some (.lst xs) ∧ xs.length < sizeLine ∧ 0 ≤ i ∧ i < 2 ^ 63 ∧ Q .non (upd H l (.lst (xs.take i.toNat ++ [y] ++ xs.drop i.toNat)))
theorem mt_insert2 : MtR X "list.insert" rIns := mt_insert
end
section
variable {K : PySem.W.Frag} {σ : L2.St} {H : Hp} {Q : VK} {QT : Bool → Hp → Prop} {te : TE} {tr : TA} {v x y : V} {QA : List V → Hp → Prop} {a : Addr} {xs : List V}
def KSt (K : PySem.W.Frag) (x : V) (t : TA) (σ : L2.St) (H : Hp) (QA : List V → Hp → Prop) : Prop := ∃ p xs, x = V.ref p ∧ (SqT K H p xs ∨ SqL K H p xs) ∧ t σ H fun ys H2 => QA (xs ++ ys) H2
theorem a_star (h : te σ H fun x H1 => KSt K x tr σ H1 QA) : tStar K te tr σ H QA := h
theorem k_st (hs : Sq K H a xs) (h : tr σ H fun ys H2 => QA (xs ++ ys) H2) : KSt K (.ref a) tr σ H QA := ⟨a, xs, rfl, hs.symm, h⟩
theorem k_trQ (hs : Sq K H a xs) (h : QT (!xs.isEmpty) H) : KTr K (.ref a) H QT := hs.elim (fun s => k_trL s h) fun s => k_trT s h
theorem b_lenQ (hs : Sq K H a xs) (h : Q (.int xs.length) H) : rLn K [.ref a] H Q := hs.elim (fun s => b_lenL s h) fun s => b_lenT s h
theorem o_ixQ {j : Int} (hs : Sq K H a xs) (e : atI xs j = some v) (h : Q v H) : rIx K (.ref a) (.int j) H Q := hs.elim (fun s => o_ixL s e h) fun s => o_ixT s e h
theorem ix_intQ {ns : List Int} {i : Int} (hs : Sq K H a (ns.map V.int)) (h0 : 0 ≤ i) (h1 : i < ns.length) (h : ∀ x : Int, ns[i.toNat]? = some x → Q (.int x) H) : rIx K (.ref a) (.int i) H Q := by
  have e := List.getElem?_eq_getElem (l := ns) (i := i.toNat) (by omega)
  exact o_ixQ hs (atI_of (j := i.toNat) (by omega) (v := .int ns[i.toNat]) (by rw [List.getElem?_map, e]; rfl)) (h _ e)
theorem m_ins {i : Int} (e : H a = some (.lst xs)) (hz : xs.length < sizeLine) (h0 : 0 ≤ i) (h1 : i ≤ xs.length) (h : ∀ H2, Chg a H H2 → H2 a = some (.lst (xs.take i.toNat ++ [y] ++ xs.drop i.toNat)) → Q .non H2) : rIns (.ref a) [.int i, y] H Q :=
  ⟨a, xs, i, y, rfl, rfl, e, hz, h0, by have : sizeLine = 16777216 := sizeLine_eq; omega, h _ chg_upd upd_same⟩
theorem m_popI {i : Int} (e : H a = some (.lst xs)) (hz : xs.length < sizeLine) (h0 : 0 ≤ i) (h1 : i < xs.length) (g : xs[i.toNat]? = some y) (h : ∀ H2, Chg a H H2 → H2 a = some (.lst (xs.eraseIdx i.toNat)) → Q y H2) : rPopAt (.ref a) [.int i] H Q := by
  have hs : sizeLine = 16777216 := sizeLine_eq
  refine ⟨a, xs, i, i.toNat, y, rfl, rfl, e, by omega, by omega, ?_, g, h _ chg_upd upd_same⟩
  unfold seqIndex?
  have : ¬ i < 0 := by omega
  simp [this, h0, h1]
/-- v[1:] of either kind, walked -/
theorem cut1 (xs : List V) : cutV xs (some 1) none = xs.drop 1 := by
  unfold cutV
  rw [show (1 : Int) = ((1 : Nat) : Int) from rfl, HT.sIx_nat]
  simp [HT.sIx]
  cases xs with
  | nil => rfl
  | cons x r => simp
theorem w_cut1 {b : Addr} {n : V} {r : List V} {i : Nat} {R : It → Hp → Prop} (hs : Sq K H b (n :: r)) (e : σ[i]? = some (some (.ref b))) (h : ∀ J p H2, Same H H2 → SqIt K p r J H2 → R J H2) :
    iSeq K (tSl (rSl3 K) (tVar i) (tPart (tC (.int 1))) tNoPart) σ H R := by
  have e1 : cutV (n :: r) (some 1) none = r := by rw [cut1]; rfl
  rcases hs with hs | hs
  · refine .inl (w_l (e_sl (e_var e (p_so (e_c (k_int (p_no ?_)))))))
    refine .inl (l_L hs fun p H2 np s2 e2 => ?_)
    rw [e1] at e2
    exact k_l (lst_of e2) (h _ p _ s2 (.inl ⟨rfl, lst_of e2⟩))
  · refine .inr (w_t (e_sl (e_var e (p_so (e_c (k_int (p_no ?_)))))))
    refine .inr ⟨b, n :: r, rfl, hs, fun c => ?_, fun _ => new_same (Q := fun x H1 => Wy.KT K x H1 R) fun p H2 np s2 e2 => ?_⟩
    · have := c.1
      rw [show (1 : Int) = ((1 : Nat) : Int) from rfl, HT.sIx_nat, List.length_cons] at this
      omega
    · rw [e1] at e2
      exact k_t (tup_of e2) (h _ p _ s2 (.inr ⟨rfl, tup_of e2⟩))
end
/-! ### chains -/
def dsAt (ds : List Df) (n : Int) : Df := ds.getD n.toNat (0, 0, 0)
def inB (m : Nat) (n : Int) : Bool := decide (0 ≤ n) && decide (n < (m : Int))
def runC : Df → List Df → Option Df
  | t, [] => some t
  | t, d :: r => if d.1 = t.2.1 then runC (t.1, d.2.1, t.2.2 + d.2.2) r else none
def csum (ds : List Df) : List Int → Option Df
  | [] => none
  | n :: r => if (n :: r).all (inB ds.length) = true then runC (dsAt ds n) (r.map (dsAt ds)) else none
def ringB (ds : List Df) (ns : List Int) : Bool := match csum ds ns with
  | none => false
  | some t => decide (t.1 = t.2.1) && decide (t.2.2 < 0)
def floorV (ds : List Df) (ns : List Int) (k : Int) : Option Int := match csum ds ns with
  | none => none
  | some t => if t.1 = 0 ∧ t.2.1 = k then some (-t.2.2) else none
theorem csum_cons {ds : List Df} {n : Int} {r : List Int} : csum ds (n :: r) = if (n :: r).all (inB ds.length) = true then runC (dsAt ds n) (r.map (dsAt ds)) else none := rfl
theorem ringB_none {ds : List Df} {ns : List Int} (e : csum ds ns = none) : ringB ds ns = false := by
  unfold ringB
  rw [e]
theorem ringB_some {ds : List Df} {ns : List Int} {t : Df} (e : csum ds ns = some t) : ringB ds ns = (decide (t.1 = t.2.1) && decide (t.2.2 < 0)) := by
  unfold ringB
  rw [e]
theorem floorV_none {ds : List Df} {ns : List Int} {k : Int} (e : csum ds ns = none) : floorV ds ns k = none := by
  unfold floorV
  rw [e]
theorem floorV_some {ds : List Df} {ns : List Int} {t : Df} {k : Int} (e : csum ds ns = some t) : floorV ds ns k = if t.1 = 0 ∧ t.2.1 = k then some (-t.2.2) else none := by
  unfold floorV
  rw [e]
inductive Path : List Df → Int → Int → Int → Prop
  | nil {u : Int} : Path [] u u 0
  | cons {r : List Df} {u v z c s : Int} : Path r v z s → Path ((u, v, c) :: r) u z (c + s)
theorem Path.app {b : List Df} {z t : Int} : ∀ {a : List Df} {u v s : Int}, Path a u v s → Path b v z t → Path (a ++ b) u z (s + t)
  | _, _, _, _, .nil, h => by
    rw [Int.zero_add]
    exact h
  | _, _, _, _, .cons p, h => by
    rw [Int.add_assoc]
    exact .cons (p.app h)
theorem Path.split {b : List Df} {z : Int} : ∀ {a : List Df} {u s : Int}, Path (a ++ b) u z s → ∃ m s1 s2, Path a u m s1 ∧ Path b m z s2 ∧ s = s1 + s2
  | [], u, s, h => ⟨u, 0, s, .nil, h, by omega⟩
  | d :: a, u, s, h => by
    cases h with
    | cons p =>
      obtain ⟨m, s1, s2, h1, h2, e⟩ := p.split
      exact ⟨m, _, s2, .cons h1, h2, by omega⟩
theorem Path.one {u v c : Int} : Path [(u, v, c)] u v c := by
  have := Path.cons (u := u) (c := c) (Path.nil (u := v))
  rwa [Int.add_zero] at this
theorem run_path {f : Int} : ∀ {es : List Df} {l z s t : Int}, Path es l z s → runC (f, l, t) es = some (f, z, t + s)
  | _, _, _, _, t, .nil => by rw [Int.add_zero]; rfl
  | _, _, _, _, t, .cons p => by
    unfold runC
    rw [if_pos rfl, run_path p]
    simp only [Option.some.injEq, Prod.mk.injEq, true_and]
    omega
theorem csum_path {ds : List Df} {ns : List Int} {u z s : Int} (h : ∀ n ∈ ns, 0 ≤ n ∧ n < ds.length) (p : Path (ns.map (dsAt ds)) u z s) (ne : ns ≠ []) : csum ds ns = some (u, z, s) := by
  cases ns with
  | nil => exact absurd rfl ne
  | cons n r =>
    show (if (n :: r).all (inB ds.length) = true then runC (dsAt ds n) (r.map (dsAt ds)) else none) = _
    rw [if_pos (List.all_eq_true.mpr fun x hx => by
      obtain ⟨h1, h2⟩ := h x hx
      unfold inB
      rw [decide_eq_true h1, decide_eq_true h2]
      rfl)]
    rw [List.map_cons] at p
    generalize dsAt ds n = d at p
    obtain ⟨a, b, c⟩ := d
    cases p with
    | cons p => exact run_path p
theorem kept_path {vs : List Int} : ∀ {es : List Df} {u z s : Int}, Path es u z s → (∀ d ∈ es, kept vs d = true) → lv vs u - lv vs z ≤ s
  | _, _, _, _, .nil, _ => by omega
  | _, u, z, _, .cons (v := v) (c := c) p, h => by
    have h1 := kept_path p fun d hd => h d (List.mem_cons_of_mem _ hd)
    have h2 := of_decide_eq_true (h (u, v, c) List.mem_cons_self)
    simp only at h2
    omega
theorem path_of (nd ws : Nat → Int) : ∀ n : Nat, Path ((List.range n).map fun k => (nd k, nd (k + 1), ws k)) (nd 0) (nd n) (((List.range n).map ws).sum)
  | 0 => .nil
  | n + 1 => by
    rw [List.range_succ, List.map_append, List.map_append, List.sum_append]
    refine (path_of nd ws n).app ?_
    simp only [List.map_cons, List.map_nil, List.sum_cons, List.sum_nil, Int.add_zero]
    exact Path.one
theorem path_rot {es : List Df} {u s : Int} (k : Nat) (p : Path es u u s) : ∃ m, Path (es.drop k ++ es.take k) m m s := by
  rw [← List.take_append_drop k es] at p
  obtain ⟨m, s1, s2, h1, h2, e⟩ := p.split
  refine ⟨m, ?_⟩
  rw [e, Int.add_comm]
  exact h2.app h1
theorem take_sum {ws : List Int} {n : Nat} (h : n ≤ ws.length) : (List.range n).map (fun k => ws.getD k 0) = ws.take n := by
  refine List.ext_getElem? fun j => ?_
  rw [List.getElem?_map, List.getElem?_take]
  by_cases hj : j < n
  · rw [List.getElem?_range hj, if_pos hj, List.getElem?_eq_getElem (by omega)]
    show some (ws.getD j 0) = _
    rw [List.getD_eq_getElem?_getD, List.getElem?_eq_getElem (by omega)]
    rfl
  · rw [List.getElem?_eq_none (by rw [List.length_range]; omega), if_neg hj]
    rfl
section
variable {K : PySem.W.Frag}
/-- the sum of a chain -/
def spChain (K : PySem.W.Frag) : Sp := fun vs H Q _ => ∃ (a b : Addr) (us : List V) (ds : List Df) (ns : List Int), vs = [.ref a, .ref b] ∧ Sq K H a us ∧ TpAll H us (ds.map dfD) ∧ Sq K H b (ns.map V.int) ∧ ds.length ≤ 1000 ∧ ns.length ≤ 1000 ∧
  (csum ds ns = none → ∀ H', Same H H' → Q .non H') ∧ ∀ t : Df, csum ds ns = some t → ∀ p H', Same H H' → H p = none → H' p = some (.tup [.int t.1, .int t.2.1, .int t.2.2]) → Q (.ref p) H'
def spRing (K : PySem.W.Frag) : Sp := fun vs H Q _ => ∃ (a b : Addr) (us : List V) (ds : List Df) (ns : List Int), vs = [.ref a, .ref b] ∧ Sq K H a us ∧ TpAll H us (ds.map dfD) ∧ Sq K H b (ns.map V.int) ∧ ds.length ≤ 1000 ∧ ns.length ≤ 1000 ∧
  ∀ H', Same H H' → Q (.bl (ringB ds ns)) H'
def oI : Option Int → V
  | none => .non
  | some i => .int i
def spFloor (K : PySem.W.Frag) : Sp := fun vs H Q _ => ∃ (a b : Addr) (us : List V) (ds : List Df) (ns : List Int) (k : Int), vs = [.ref a, .ref b, .int k] ∧ Sq K H a us ∧ TpAll H us (ds.map dfD) ∧ Sq K H b (ns.map V.int) ∧ ds.length ≤ 1000 ∧ ns.length ≤ 1000 ∧
  ∀ H', Same H H' → Q (oI (floorV ds ns k)) H'
def spKeeps (K : PySem.W.Frag) : Sp := fun vs H Q _ => ∃ (a b : Addr) (us : List V) (ds : List Df) (vals : List Int), vs = [.ref a, .ref b] ∧ Sq K H a us ∧ TpAll H us (ds.map dfD) ∧ Sq K H b (vals.map V.int) ∧ (∀ d ∈ ds, InR vals.length d) ∧
  ds.length ≤ 1000 ∧ vals.length ≤ 900 ∧ ∀ H', Same H H' → Q (.bl (ds.all (kept vals))) H'
def spTells : Sp := fun vs H Q _ => ∃ x y : Bool, vs = [.bl x, .bl y] ∧ Q (.bl (decide (x = y))) H
def spWt : Sp := fun vs H Q _ => ∃ d : Int, vs = [.int d] ∧ ∀ r : Int, Q (.int r) H
def spDiffs (K : PySem.W.Frag) : Sp := fun vs H Q _ => ∃ (a : Addr) (zs : List Int) (pl : Int) (n m : Nat), vs = [.ref a, .int pl, .int n, .int m] ∧ SqL K H a (zs.map V.int) ∧ n ≤ 100 ∧ m ≤ 1000 ∧
  ∀ p us H' ds, Same H H' → H p = none → H' p = some (.lst us) → TpAll H' us ((ds : List Df).map dfD) → ds.length = n → (∀ d ∈ ds, InR m d) → Q (.ref p) H'
end
end WC
/-! WE: comprehensions of the laws. -/
namespace WE
open PySem PySem.Spec PyProof.Rows L2 Wy WN WQ WS WC
section
variable {K : PySem.W.Frag} {σ : L2.St} {H : Hp} {Q : VK} {te : TE} {vs : List Nat} {i : Nat} {a : Addr}
/-- one value again and again -/
theorem c_const {lo : Int} {n : Nat} {v : V} (hte : ∀ σ H (N : VK), N v H → te σ H N) (hz : n ≤ 100000) (hw : ∀ x, wipe ((wipe σ vs).set i (some x)) vs = wipe σ vs) (post : ∀ D H2, H D = none → Same H H2 → H2 D = some (.lst (List.replicate n v)) → Q (.ref D) H2) :
    LoopC (Itr lo n) (gName i) tYes te vs σ H Q := by
  refine c_accR (One fun _ y _ => y = v) (fun _ _ _ _ _ h => h) (fun i acc H hi h => small1000' (by rw [h.1]; omega)) One.zero (fun j H1 acc N M hj s1 o hN hM => ?_) (fun D H1 ys nD s1 e1 o => ?_)
  · refine g_name ⟨hw _, t_yes ?_⟩
    exact iteTT rfl (hte _ _ _ (hN _ _ (Same.refl _) (o.snoc (fun _ _ h => h) rfl)))
  · rw [o.const] at e1
    exact post D H1 nD s1 e1
theorem c_constI {lo : Int} {n : Nat} {c : Int} (hte : ∀ σ H (N : VK), N (.int c) H → te σ H N) (hz : n ≤ 100000) (hw : ∀ x, wipe ((wipe σ vs).set i (some x)) vs = wipe σ vs) (post : ∀ D H2, H D = none → Same H H2 → H2 D = some (.lst ((List.replicate n c).map V.int)) → Q (.ref D) H2) :
    LoopC (Itr lo n) (gName i) tYes te vs σ H Q := c_const hte hz hw fun D H2 nD s e => post D H2 nD s (by rw [List.map_replicate]; exact e)
/-- an int from each int -/
theorem c_ints {xs : List Int} (hs : SqL K H a (xs.map V.int)) (hte : ∀ (x : Int) H (N : VK), (∀ r : Int, N (.int r) H) → te ((wipe σ vs).set i (some (.int x))) H N) (hz : xs.length ≤ 100000) (hw : ∀ x, wipe ((wipe σ vs).set i (some x)) vs = wipe σ vs)
    (post : ∀ D H2 (rs : List Int), H D = none → Same H H2 → rs.length = xs.length → H2 D = some (.lst (rs.map V.int)) → Q (.ref D) H2) : LoopC (Itl K a) (gName i) tYes te vs σ H Q := by
  refine c_acc (xs := xs.map V.int) (.inl ⟨rfl, hs⟩) (One fun _ y _ => ∃ r : Int, y = .int r) (fun _ _ _ _ _ h => h) (fun i acc H hi h => small1000' (by rw [h.1]; rw [List.length_map] at hi; omega)) One.zero (fun j x H1 acc N M hx s1 o hN hM => ?_) (fun D H1 ys nD s1 e1 o => ?_)
  · rw [List.getElem?_map] at hx
    obtain ⟨d, gd, rfl⟩ := Option.map_eq_some_iff.mp hx
    refine g_name ⟨hw _, t_yes ?_⟩
    exact iteTT rfl (hte _ _ _ fun r => hN _ _ (Same.refl _) (o.snoc (fun _ _ h => h) ⟨r, rfl⟩))
  · rw [List.length_map] at o
    obtain ⟨rs, rfl, lr⟩ := o.ints fun _ _ _ h => h
    exact post D H1 rs nD s1 lr e1
/-- ints by place -/
theorem c_rng {lo : Int} {n : Nat} (F : Nat → Int) (hte : ∀ (j : Nat) H (N : VK), j < n → N (.int (F j)) H → te ((wipe σ vs).set i (some (.int (lo + j)))) H N) (hz : n ≤ 100000) (hw : ∀ x, wipe ((wipe σ vs).set i (some x)) vs = wipe σ vs)
    (post : ∀ D H2, H D = none → Same H H2 → H2 D = some (.lst (((List.range n).map F).map V.int)) → Q (.ref D) H2) : LoopC (Itr lo n) (gName i) tYes te vs σ H Q := by
  refine c_accR (One fun j y _ => y = .int (F j)) (fun _ _ _ _ _ h => h) (fun i acc H hi h => small1000' (by rw [h.1]; omega)) One.zero (fun j H1 acc N M hj s1 o hN hM => ?_) (fun D H1 ys nD s1 e1 o => ?_)
  · refine g_name ⟨hw _, t_yes ?_⟩
    exact iteTT rfl (hte _ _ _ hj (hN _ _ (Same.refl _) (o.snoc (fun _ _ h => h) rfl)))
  · have ey := o.eqR fun j y _ h => h
    rw [ey] at e1
    exact post D H1 nD s1 (by rw [List.map_map]; exact e1)
/-- one datum by place -/
theorem c_tps {lo : Int} {n : Nat} (F : Nat → PyData) (hte : ∀ (j : Nat) H1 (N : VK), j < n → Same H H1 → (∀ y H3, Same H1 H3 → Tp H3 y (F j) → N y H3) → te ((wipe σ vs).set i (some (.int (lo + j)))) H1 N) (hz : n ≤ 100000) (hw : ∀ x, wipe ((wipe σ vs).set i (some x)) vs = wipe σ vs)
    (post : ∀ D H2 us, H D = none → Same H H2 → H2 D = some (.lst us) → TpAll H2 us ((List.range n).map F) → Q (.ref D) H2) : LoopC (Itr lo n) (gName i) tYes te vs σ H Q := by
  refine c_accR (One fun j y H => Tp H y (F j)) (fun i acc H H' k h => ⟨h.1, fun j y e => (h.2 j y e).tk k⟩) (fun i acc H hi h => small1000' (by rw [h.1]; omega)) One.zero (fun j H1 acc N M hj s1 o hN hM => ?_) (fun D H1 ys nD s1 e1 o => ?_)
  · refine g_name ⟨hw _, t_yes ?_⟩
    exact iteTT rfl (hte _ _ _ hj s1 fun y H3 s3 t => hN _ _ s3 (o.snoc (fun _ _ h => h.tk s3.tk) t))
  · exact post D H1 ys nD s1 e1 (tpOne o fun j y _ h => h)
theorem c_rngV {lo : Int} {n : Nat} (F : Nat → V) (hte : ∀ (j : Nat) H (N : VK), j < n → (∀ H3, Same H H3 → N (F j) H3) → te ((wipe σ vs).set i (some (.int (lo + j)))) H N) (hz : n ≤ 100000) (hw : ∀ x, wipe ((wipe σ vs).set i (some x)) vs = wipe σ vs)
    (post : ∀ D H2, H D = none → Same H H2 → H2 D = some (.lst ((List.range n).map F)) → Q (.ref D) H2) : LoopC (Itr lo n) (gName i) tYes te vs σ H Q := by
  refine c_accR (One fun j y _ => y = F j) (fun _ _ _ _ _ h => h) (fun i acc H hi h => small1000' (by rw [h.1]; omega)) One.zero (fun j H1 acc N M hj s1 o hN hM => ?_) (fun D H1 ys nD s1 e1 o => ?_)
  · refine g_name ⟨hw _, t_yes ?_⟩
    exact iteTT rfl (hte _ _ _ hj (fun H3 s3 => hN _ _ s3 (o.snoc (fun _ _ h => h) rfl)))
  · have ey := o.eqR fun j y _ h => h
    rw [ey] at e1
    exact post D H1 nD s1 e1
def KRev (K : PySem.W.Frag) (x : V) (H : Hp) (Q : VK) : Prop := ∃ a xs, x = V.ref a ∧ SqL K H a xs ∧ ∀ p, H p = none → Q (.ref p) (upd H p (.lst xs.reverse))
theorem e_revL (h : te σ H fun x H1 => KRev K x H1 Q) : tRevL K te σ H Q := h
theorem k_rev {xs : List V} (e : H a = some (.lst xs)) (h : ∀ p H2, H p = none → Same H H2 → H2 p = some (.lst xs.reverse) → Q (.ref p) H2) : KRev K (.ref a) H Q := ⟨a, xs, rfl, lst_of e, new_same h⟩
theorem ix_pick {c : Bool} {u v : V} (e : H a = some (.lst [u, v])) (h : Q (if c then v else u) H) : rIx K (.ref a) (.int (if c = true then 1 else 0)) H Q := by
  cases c with
  | true => exact o_ixL (lst_of e) (v := v) rfl h
  | false => exact o_ixL (lst_of e) (v := u) rfl h
theorem o_isB {a b : Bool} (h : Q (.bl (decide (a = b))) H) : rIsB (.bl a) (.bl b) H Q := ⟨a, b, rfl, rfl, h⟩
theorem o_ntB {a b : Bool} (h : Q (.bl (!decide (a = b))) H) : rNotB (.bl a) (.bl b) H Q := ⟨a, b, rfl, rfl, h⟩
theorem cutTo (xs : List V) {i : Int} (h : 0 ≤ i) : cutV xs none (some i) = xs.take i.toNat := by
  obtain ⟨k, rfl⟩ : ∃ k : Nat, i = k := ⟨i.toNat, by omega⟩
  unfold cutV
  rw [HT.sIx_nat, HT.sIx_none, List.drop_zero, Nat.sub_zero, Int.toNat_natCast]
  by_cases hk : k ≤ xs.length
  · rw [Nat.min_eq_left hk]
  · rw [Nat.min_eq_right (by omega), List.take_of_length_le (Nat.le_refl _), List.take_of_length_le (by omega)]
theorem cutFrom (xs : List V) {i : Int} (h : 0 ≤ i) : cutV xs (some i) none = xs.drop i.toNat := by
  obtain ⟨k, rfl⟩ : ∃ k : Nat, i = k := ⟨i.toNat, by omega⟩
  unfold cutV
  rw [HT.sIx_nat, HT.sIx_none, Int.toNat_natCast]
  by_cases hk : k ≤ xs.length
  · rw [Nat.min_eq_left hk, List.take_of_length_le (by rw [List.length_drop]; omega)]
  · rw [Nat.min_eq_right (by omega), List.drop_of_length_le (Nat.le_refl _), List.drop_of_length_le (by omega)]
    simp
theorem ne_ints {H : Hp} {a b v : Addr} {rs : List V} {xs : List Int} (h1 : H a = some (.lst (.ref v :: rs))) (h2 : H b = some (.lst (xs.map V.int))) : b ≠ a := by
  intro e
  subst e
  rw [h1] at h2
  cases xs <;> cases h2
end
end WE
/-! WG: defs that run while no repr is under way. -/
namespace WG
open PySem PySem.Spec PyProof.Rows L2 Wy WN WQ
/-- as FnOk, but from callers alone in which no repr is under way -/
structure FnG (P : Program) (w : World) (K : PySem.W.Frag) (mg : Str → Option Value) (base : Heap) (k : Nat) (f : Addr) (fd : FuncData) (ps : List Str) (sp : Sp) : Prop where
  len : ∀ vs H Q E, sp vs H Q E → vs.length = ps.length
  run : ∀ (A : Around) (outer : List Env) (s : Shared) (H : Hp) (args : Args) (us : List Value) (vs : List V) (Q : VK) (E : XK), Room k A → A.guards = some [] → Env0 P w K mg base A outer s H →
    BindsTo s fd args (ps.zip us) → Vals vs us → sp vs H Q E → codeAny (model P w) A (.call (.ref f) args) (CR CX0 outer P w H s Q E) s
section
variable {P : Program} {w : World} {K : PySem.W.Frag} {mg : Str → Option Value} {base : Heap} {k : Nat} {f : Addr} {x qual : Str} {st : Stmt} {N ps : List Str} {sp : Sp}
theorem fnG (fd : FuncData) (F : FunD K x qual (defArgs st) (defBody st) (defScope st) [] [] f fd) (S : FnScope N ps (defScope st)) (len : ∀ vs H Q E, sp vs H Q E → vs.length = ps.length)
    (body : ∀ (f : Addr) (cdv : Value) (A : Around) (outer : List Env) (s : Shared) (H : Hp) (vs : List V) (Q : VK) (E : XK), Room k (A.deeper (envOfC qual (defScope st) s.heap.objs.size f cdv)) → (A.deeper (envOfC qual (defScope st) s.heap.objs.size f cdv)).guards = some [] → sp vs H Q E →
      ∃ t, PSs (cxOf CX0 P w K mg base N qual (defScope st) f cdv A outer s H E).nox (defBody st) t ∧ t { nx := fun _ H' => Q .non H', rt := Q } (start N vs) H) : FnG P w K mg base (k + 1) f fd ps sp := by
  obtain ⟨oc, od, dV, kV, doc, pm, an, cdv, ct, osl, rfl, lk, hcd, _, _⟩ := F.ex
  constructor
  · exact len
  · intro A outer s H args us vs Q E room quiet env bd rel told
    have stays : ∀ (b : Addr) (o : Obj), base.get? b = some o → s.heap.get? b = some o := fun b o q => (env.bs b o q).1
    have count := len vs H Q E told
    have heap : K.In s.heap := env.mod.kin.keeps stays
    refine codeAny_call_function room.depth (heap _ _ lk) rfl S.co S.gen rfl (PySem.W.codeRec_of heap hcd) ?_
    refine bd _ _ _ _ (wpAny_newFunctionEnv_cells S.kind ?kinds fun e he s1 made => ?_)
    case kinds =>
      intro y hy
      cases S.par y.1 (List.of_mem_zip (a := y.1) (b := y.2) hy).1 with
      | inl q => exact Or.inl q
      | inr q => exact Or.inr (And.intro q (PySem.W.cellsFrom_some _ _ _ (Or.inl q)))
    subst he
    have nolim : s.heap.NoLimit := env.mod.nolimit.keeps stays
    refine And.intro (nolim.keeps made.toInCall.keep) (codeAny_func ?_)
    obtain ⟨t, d, rd⟩ := body f cdv A outer s H vs Q E (room.deeper _) (by exact quiet) told
    have inv := inv_start (CX := CX0) (E := E) S room.hd env count rel made
    have ran := (PSs.nox d).run [] s1 (start N vs) H _ inv rd
    refine wpAny_mono ran (fun fl s' out => ?_) (fun e s' out => out)
    match fl, out with
    | .ret u, ⟨v, _, H', J, r, z⟩ => exact ⟨v, H', J.os, J.bare, J.base, J.hok, r, z⟩
    | .next, ⟨_, H', J, z⟩ => exact ⟨.non, H', J.os, J.bare, J.base, J.hok, rfl, z⟩
    | .brk, ⟨_, _, _, z⟩ => exact z.elim
    | .cont, ⟨_, _, _, z⟩ => exact z.elim
/-- a def that may be called where no repr is under way -/
structure CalG (P : Program) (w : World) (K : PySem.W.Frag) (mg : Str → Option Value) (base : Heap) (k : Nat) (x : Str) (sp : Sp) : Prop where
  ex : ∃ (f : Addr) (fd : FuncData) (ps : List Str), FnG P w K mg base k f fd ps sp ∧ mg x = some (.ref f) ∧ PySem.W.keepIn K (.ref f) = true ∧ Binds K fd ps []
theorem cal_ofG (F : DefOk K mg x st) (S : FnScope N ps (defScope st)) (hb : ∀ f fd, FunD K x x (defArgs st) (defBody st) (defScope st) [] [] f fd → Binds K fd ps []) (len : ∀ vs H Q E, sp vs H Q E → vs.length = ps.length)
    (body : ∀ (f : Addr) (cdv : Value) (A : Around) (outer : List Env) (s : Shared) (H : Hp) (vs : List V) (Q : VK) (E : XK), Room k (A.deeper (envOfC x (defScope st) s.heap.objs.size f cdv)) → (A.deeper (envOfC x (defScope st) s.heap.objs.size f cdv)).guards = some [] → sp vs H Q E →
      ∃ t, PSs (cxOf CX0 P w K mg base N x (defScope st) f cdv A outer s H E).nox (defBody st) t ∧ t { nx := fun _ H' => Q .non H', rt := Q } (start N vs) H) : CalG P w K mg base (k + 1) x sp := by
  obtain ⟨f, fd, F, hm⟩ := F.ex
  exact ⟨f, fd, ps, fnG fd F S len body, hm, F.kp, hb f fd F⟩
end
section
variable {X : Cx} {k j : Nat} {x : Str} {sp : Sp} {p pos : Pos} {e : Expr} {es : List Expr} {t : TA}
theorem pe_cG (c : CalG X.prog X.w X.K X.mg X.base k x sp) (hr : Room j X.A) (hk : k ≤ j) (hq : X.A.guards = some []) (hg : Gl X x) (ha : PA X (e :: es) t) (hdb : (x == ("__debug__" : Str)) = false := by decide)
    (he : starEach (e :: es) X.env = (false, eval e X.env) :: starEach es X.env := by rfl) (hpl : (backTo pos (starEach es X.env)).any (·.1) = false := by rfl) : PE X (.Call (.Name x p) (e :: es) [] pos) (tCall sp [] C8.E0 t) := by
  obtain ⟨f, fd, ps, F, hm, kp, b⟩ := c.ex
  constructor
  intro pins s σ H Q I h
  refine wpAny_Call_Name_kw (ld_glob I hg hm ?_ hdb)
  refine PySem.W.callWith_K (h₀ := X.base) I.ok.mod.kin kp ?_ he hpl
  refine thn (ha.run pos pins s σ H _ I h) fun us s1 ⟨vs, H1, I1, r, q⟩ => And.intro I1.kIn ?_
  have q : sp (vs ++ []) H1 Q C8.E0 := q
  rw [List.append_nil] at q
  have fits : us.length = ps.length := r.length.symm.trans (F.len vs H1 Q C8.E0 q)
  have bt := b s1 us I1.kIn (by rw [List.append_nil]; exact fits)
  rw [List.append_nil] at bt
  refine wpAny_call (codeAny_mono (F.run X.A X.stack s1 H1 ⟨us, []⟩ us vs Q C8.E0 (hr.mono hk) hq I1.env0 bt r q) ?_)
  intro res s' out
  match res, out with
  | .error _, z => exact z.elim
  | .ok (.ret _), z => exact I1.after z
  | .ok .next, z => exact z.elim
  | .ok .brk, z => exact z.elim
  | .ok .cont, z => exact z.elim
theorem call_reprG (hq : X.A.guards = some []) (hu : X.A.units + 64 < cLine) : CallR X (.builtin "repr") (rRepr X.K) := by
  intro pins s σ H xs us Q I r h
  obtain ⟨a, d, rfl, hd, hs, hn, hdp, hz, q⟩ := h
  obtain ⟨u, eu, rx⟩ := vals1 r
  subst eu
  obtain rfl : u = Value.ref a := rx
  obtain ⟨as, rd⟩ := Dp.reads I d _ _ hd rfl
  refine repr_of_reads' (h₀ := s.heap) rd hs (fun z => by rw [hn] at z; cases z) hq (by omega) (fun _ _ e => e) (fun h' u tk keep => ?_) hz
  exact ⟨.str d.shown, H, I.kept keep, ⟨u, rfl⟩, q⟩
end
/-! ### the end -/
section
variable {P : Program} {w : World} {K : PySem.W.Frag} {mg mb : Str → Option Value} {k : Nat} {fa a : Addr} {fd : FuncData} {x : Str} {sp : Sp} {s : Shared} {vs : List Value} {ns : List Int}
/-- the entry of the law, over what is not tracked -/
theorem enter (kin : K.In s.heap) (glob : s.heap.Ns mainGlobals mg) (blt : s.heap.Ns builtinsNs mb) (boot : ∀ x : Str, x ≠ "__name__" → mb x = bootBuiltins x) (nolim : s.heap.NoLimit) (gens : s.gens = #[])
    (obj : s.heap.get? a = some { cls := .type "list", data := .seq vs.toArray }) {H : Hp} (hok : HOk P w H s.heap) (one : ∀ b, H b ≠ none → b = a) (own : H a ≠ none → K.lookup a = none) :
    Env0 P w K mg (hidT s.heap H) callerA [] s H := by
  have free : ∀ b : Addr, b ≠ a → H b = none := fun b n => Classical.byContradiction fun z => n (one b z)
  have spaces : ∀ {b : Addr} {m : Str → Option Value}, s.heap.Ns b m → (hidT s.heap H).Ns b m := by
    rintro b m ⟨o, es, ep, e, d, r⟩
    refine ⟨o, es, ep, hidT_get e (free b fun z => ?_), d, r⟩
    rw [z, obj] at e
    rw [← Option.some.inj e] at d
    cases d
  have frag : K.In (hidT s.heap H) := by
    intro b o e
    by_cases q : H b = none
    · exact hidT_get (kin b o e) q
    · rw [one b q] at e q
      rw [own q] at e
      cases e
  obtain ⟨mc, l1, l2⟩ := nolim
  constructor
  · rfl
  · exact { kin := frag, glob := spaces glob, blt := ⟨mb, spaces blt, boot⟩, nolimit := ⟨mc, spaces l1, l2⟩ }
  · exact fun b o e => of_hidT e
  · exact Nat.le_of_eq (hidT_size s.heap H)
  · trivial
  · intro b hb
    simp [frs] at hb
  · exact hok
  · exact .of_eq gens
theorem lawG (kin : K.In s.heap) (glob : s.heap.Ns mainGlobals mg) (blt : s.heap.Ns builtinsNs mb) (boot : ∀ x : Str, x ≠ "__name__" → mb x = bootBuiltins x) (nolim : s.heap.NoLimit) (gens : s.gens = #[])
    (obj : s.heap.get? a = some { cls := .type "list", data := .seq vs.toArray }) (inn : IntsAre vs ns) (few : ns.length ≤ sizeLine) (room : Room k callerA) (F : ∀ base : Heap, FnG P w K mg base k fa fd [x] sp)
    (bd : ∀ (s : Shared) (u : Value), BindsTo s fd ⟨[u], []⟩ [(x, u)]) (told : ∀ H : Hp, SqL K H a (ns.map V.int) → sp [.ref a] H (fun v _ => v = .bl true) fun _ _ _ => False) :
    codeAny (model P w) callerA (.call (.ref fa) ⟨[.ref a], []⟩) (fun r s' => r = .ok (.ret (.bool true)) ∧ OldK s.heap s'.heap ∧ s'.os = s.os ∧ AllBare s'.gens) s := by
  have rel := vals_ints inn
  have count := inn.length
  obtain ⟨H, hok, one, own, frz, seq⟩ : ∃ H : Hp, HOk P w H s.heap ∧ (∀ b, H b ≠ none → b = a) ∧ (H a ≠ none → K.lookup a = none) ∧ (∀ b u, H b = some u → ∃ o xs, u = .frz o (.lst xs)) ∧ SqL K H a (ns.map V.int) := by
    cases lk : K.lookup a with
    | some o =>
      have e := kin a o lk
      rw [obj] at e
      cases e
      refine ⟨fun _ => none, (fun b u z => by cases z), (fun b z => absurd rfl z), (fun z => absurd rfl z), (fun b u z => by cases z), .inr ⟨_, vs.toArray, _, lk, rfl, rfl, rfl, ?_, ?_⟩⟩
      · rw [List.size_toArray, count]
        exact few
      · simpa using rel
    | none =>
      let O : Obj := { cls := .type "list", data := .seq vs.toArray }
      have at_ : ∀ b u, (if b = a then some (HO.frz O (.lst (ns.map V.int))) else none) = some u → b = a ∧ u = .frz O (.lst (ns.map V.int)) := fun b u z => by
        by_cases q : b = a
        · rw [if_pos q] at z
          exact ⟨q, (Option.some.inj z).symm⟩
        · rw [if_neg q] at z
          cases z
      refine ⟨fun b => if b = a then some (.frz O (.lst (ns.map V.int))) else none, fun b u z => ?_, fun b z => ?_, fun _ => rfl, fun b u z => ⟨_, _, (at_ b u z).2⟩, .inl (.inr ⟨O, if_pos rfl⟩)⟩
      · obtain ⟨rfl, rfl⟩ := at_ b u z
        exact ⟨obj, by rw [List.length_map]; exact few, vs, _, rel, obj⟩
      · by_cases q : b = a
        · exact q
        · exact absurd (if_neg q) z
  have env := enter (P := P) (w := w) kin glob blt boot nolim gens obj hok one own
  refine codeAny_mono ((F _).run callerA [] s H ⟨[.ref a], []⟩ [.ref a] [.ref a] _ _ room rfl env (bd s (.ref a)) (.cons rfl .nil) (told H seq)) ?_
  intro res s' out
  match res, out with
  | .error _, z => exact z.elim
  | .ok .next, z => exact z.elim
  | .ok .brk, z => exact z.elim
  | .ok .cont, z => exact z.elim
  | .ok (.ret u), ⟨v, H', os, bare, un, hok', r, z⟩ =>
    obtain rfl : v = .bl true := z
    obtain rfl : u = Value.bool true := r
    refine ⟨rfl, OldK.of_keep fun b o e => ?_, os, bare⟩
    cases q : H b with
    | none => exact un.keep b o e q (by simp [frs]) (by simp)
    | some u =>
      obtain ⟨ob, xs, rfl⟩ := frz b u q
      have before := (hok b _ q).1
      rw [e] at before
      rw [Option.some.inj before]
      exact (hok' b _ (un.frzs b ob _ q)).1
theorem walkG {l : PySem.W.OpenLaw} {n : Nat} {q : Program} {loose : List Str} {XP : (Str → Option Value) → Heap → Prop} {YP : World → Heap → Prop} {d : DefRec} (most : l.most = some n) (small : n ≤ sizeLine) (plain : d.params.defaults = []) (room : Room k callerA)
    (F : ∀ (w : World) (mg : Str → Option Value) (fa : Addr) (h : Heap), YP w h → h.Ns mainGlobals mg → mg d.name = some (.ref fa) → ∃ (K : PySem.W.Frag) (fd : FuncData) (sp : Sp), K.In h ∧ (∀ (s : Shared) (u : Value), BindsTo s fd ⟨[u], []⟩ [(x, u)]) ∧
      (∀ (H : Hp) (a : Addr) (ns : List Int), ns.length ≤ n → SqL K H a (ns.map V.int) → sp [.ref a] H (fun v _ => v = .bl true) fun _ _ _ => False) ∧ ∀ base : Heap, FnG l.prog w K mg base k fa fd [x] sp) :
    PySem.W.WalkO q loose XP YP l.row.toRowW d [] (fun f vs => PySem.call f vs) := by
  refine Att.attach_call most plain ?_
  intro w s₀ s₁ mg mb fa o pm cd doc a vs ns G Y ho hd hcd hmg obj inn len gens
  obtain ⟨K, fd, sp, kin, bd, told, fs⟩ := F w mg fa _ Y G.T.g hmg
  exact lawG kin G.T.g G.T.b G.T.builtins G.T.nolimit gens obj inn (Nat.le_trans len small) room fs bd fun H hS => told H a ns len hS
end
end WG
/-! WL: a lambda of one parameter that is handed on, with one captured name. -/
namespace WL
open PySem PySem.Spec PyProof.Rows L2 Wy LamX
/-- a lambda that was made -/
structure Jd where
  f : Addr
  c' : Addr
  q : Str
  params : Arguments
  body : Expr
  scope : Scope
  cl : List (Str × Addr)
  pm : Value
  ctv : Value
  x : Str
  z : Str
  cz : Addr
  pv : V
abbrev Jd.fd (J : Jd) : FuncData := PySem.W.kla_fn "<lambda>" J.q J.params J.body J.scope J.cl J.pm (.ref J.c') J.ctv
abbrev Jd.ob (J : Jd) : Obj := PySem.W.kla_obj "<lambda>" J.q J.params J.body J.scope J.cl J.pm J.c' J.ctv
/-- its names: the parameter and the captured one -/
structure Jd.Ok (J : Jd) : Prop where
  kind : J.scope.kind = .function
  co : J.scope.isCoroutine = false
  gen : J.scope.isGenerator = false
  ne : J.x ≠ J.z
  hx : J.scope.names.lookup J.x = some .local
  nocell : ∀ y ∈ J.scope.names, y.2 ≠ .cell
  own : ∀ y, J.scope.names.lookup y = some .local → y = J.x
  free : ∀ y, J.scope.names.lookup y = some .free → y = J.z
  cl1 : ∀ y c, J.cl.lookup y = some c → y = J.z ∧ c = J.cz
  cl2 : J.cl.lookup J.z = some J.cz
  bind : ∀ u : Value, bindArgs J.fd ⟨[u], []⟩ = pure [(J.x, u)]
/-- it stands in the heap -/
structure There (J : Jd) (s : Shared) (H : Hp) (fs : List Addr) : Prop where
  ob : s.heap.get? J.f = some J.ob
  nH : H J.f = none
  nf : J.f ∉ fs
  cell : ∃ u, RelV J.pv u ∧ s.heap.IsCell J.cz (some u)
  nC : H J.cz = none
  code : H J.c' = some (CodeO J.c' J.q)
theorem There.step {J : Jd} {s s' : Shared} {H H' : Hp} {fs fs' : List Addr} (t : There J s H fs) (u : Un fs [] H H' s.heap s'.heap) (hc : H' J.c' = some (CodeO J.c' J.q)) (hn : J.f ∉ fs') : There J s' H' fs' := by
  obtain ⟨v, r, o, ho, hd⟩ := t.cell
  obtain ⟨sl, q⟩ := u.any ho t.nC (by simp)
  exact ⟨u.keep _ _ t.ob t.nH t.nf (by simp), u.free _ _ t.ob t.nH (by simp), hn, ⟨v, r, _, q, hd⟩, u.free _ _ ho t.nC (by simp), hc⟩
abbrev Jd.env (J : Jd) (L : Addr) : Env := PySem.W.envX J.q J.scope L J.f (.ref J.c') J.cl
/-- the context of its body -/
def lamC (J : Jd) (P : Program) (w : World) (K : PySem.W.Frag) (mg : Str → Option Value) (base : Heap) (A : Around) (outer : List Env) (s : Shared) (H : Hp) : Cx where
  prog := P
  w := w
  K := K
  mg := mg
  base := base
  A := A.deeper (J.env s.heap.objs.size)
  N := [J.x, J.z]
  s_0 := s
  H_0 := H
  env := J.env s.heap.objs.size
  outer := outer
  stack := J.env s.heap.objs.size :: outer
  ex := []
  fn := fun _ => false
  calm := true
  pn := []
  xe := fun e s' => wpAny (model P w) (A.deeper (J.env s.heap.objs.size)) (leaving (J.env s.heap.objs.size) e) (fun _ _ => False) (fun _ _ => False) s'
section
variable {P : Program} {w : World} {K : PySem.W.Frag} {mg : Str → Option Value} {base : Heap}
theorem lam_inv {J : Jd} (ok : J.Ok) {A : Around} {outer : List Env} {s : Shared} {H : Hp} {h₁ : Heap} {tk : Nat} {v : V} {u : Value} (th : There J s H (frs outer)) (e0 : Env0 P w K mg base A outer s H) (hd : A.handled = none) (rv : RelV v u)
    (hns : h₁.Ns s.heap.objs.size fun y => ([(J.x, u)] : List (Str × Value)).reverse.lookup y) (kp : ∀ b o, s.heap.get? b = some o → h₁.get? b = some o) :
    Inv (lamC J P w K mg base A outer s H) [] [some v, some J.pv] H { s with heap := h₁, toks := tk } := by
  have noA : ∀ b : Addr, b ∉ (lamC J P w K mg base A outer s H).ex := fun b z => absurd (show b ∈ ([] : List Addr) from z) (by simp)
  obtain ⟨uz, rz, oz, hoz, hdz⟩ := th.cell
  refine ⟨⟨e0.mod, ok.kind, rfl, rfl, Nat.le_refl _, fun y z c e1 e2 => ?_, fun y hy => ?_, fun y c z _ => ?_, fun _ => hd, Around.frames_deeper e0.frames, .inr ⟨rfl, rfl⟩, fun b z => absurd z (noA b), e0.bs, e0.bsz, fun b _ _ => noA b,
      fun b z => absurd z (noA b), e0.funs, e0.frf⟩,
    rfl, e0.bare, Un.kept kp, ⟨_, hns, fun i y v' e1 e2 e3 => ?_⟩, fun y c e => ?_, e0.hok.fresh (Nat.le_refl _), fun y c e => ?_, fun q hq => absurd (show q ∈ ([] : List (Addr × Obj)) ++ [] from hq) (by simp), e0.hok.kept kp, rfl⟩
  · have h1 : J.cl.lookup y = some c := e1
    have h2 : J.cl.lookup z = some c := e2
    rw [(ok.cl1 _ _ h1).1, (ok.cl1 _ _ h2).1]
  · have hy : J.scope.names.lookup y = some .cell ∨ J.scope.names.lookup y = some .free := hy
    rcases hy with hy | hy
    · exact absurd rfl (ok.nocell _ (PySem.mem_of_lookup hy))
    · rw [ok.free y hy]
      exact ⟨J.cz, ok.cl2⟩
  · have z : false = true := z
    cases z
  · have e1 : ([J.x, J.z] : List Str)[i]? = some y := e1
    have e3 : Vis J.scope y := e3
    rcases e3 with k | k | k
    · have hy := ok.own y k
      match i, e1 with
      | 0, e1 =>
        cases e2
        refine ⟨u, rv, .inl ⟨k, ?_⟩⟩
        show ([(J.x, u)] : List (Str × Value)).reverse.lookup y = some u
        rw [hy]
        simp [List.lookup]
      | 1, e1 =>
        cases e1
        exact absurd hy ok.ne.symm
      | i + 2, e1 => simp at e1
    · exact absurd rfl (ok.nocell _ (PySem.mem_of_lookup k))
    · have hy := ok.free y k
      match i, e1 with
      | 0, e1 =>
        cases e1
        exact absurd hy ok.ne
      | 1, e1 =>
        cases e2
        rw [hy]
        rw [hy] at k
        exact ⟨uz, rz, .inr ⟨.inr k, J.cz, ok.cl2, _, kp _ _ hoz, hdz⟩⟩
      | i + 2, e1 => simp at e1
  · obtain ⟨_, rfl⟩ := ok.cl1 y c e
    exact ⟨some uz, _, kp _ _ hoz, hdz⟩
  · obtain ⟨_, rfl⟩ := ok.cl1 y c e
    exact th.nC
/-- the lambda called -/
theorem lam_run {J : Jd} (ok : J.Ok) {k : Nat} {tb : TE} {A : Around} {outer : List Env} {s : Shared} {H : Hp} {v : V} {u : Value} {Q : VK} {E : XK} (th : There J s H (frs outer)) (e0 : Env0 P w K mg base A outer s H) (hr : Room (k + 1) A) (rv : RelV v u)
    (hbody : ∀ (s : Shared) (H : Hp), Room k (A.deeper (J.env s.heap.objs.size)) → PE (lamC J P w K mg base A outer s H) J.body tb) (q : tb [some v, some J.pv] H Q) :
    codeAny (model P w) A (.call (.ref J.f) ⟨[u], []⟩) (CR C8.CX0 outer P w H s Q E) s := by
  have lim : s.heap.NoLimit := e0.mod.nolimit.keeps fun b o e => (e0.bs b o e).1
  obtain ⟨⟨oc, vs, t, hoc, hdc, hvc⟩, _, _⟩ := e0.hok J.c' _ th.code
  refine PySem.W.kla_callFunE hr.depth th.ob rfl ok.co ok.gen rfl ⟨J.c', oc, vs, t, rfl, hoc, hdc, hvc⟩ ?_
  rw [ok.bind]
  refine wpAny_pure (wpAny_newFunctionEnv ok.nocell (fun y hy => ?_) (fun h₁ hns hsb => ⟨lim.fresh _ hsb, ?_⟩) ok.kind)
  · rw [List.mem_singleton.mp hy]
    exact ok.hx
  show codeAny _ _ (.expr J.body (J.env s.heap.objs.size)) _ _
  have kp : ∀ b o, s.heap.get? b = some o → h₁.get? b = some o := fun b o e => hsb.extBut b o (Nat.ne_of_lt (Heap.lt_size e)) (Heap.get?_push_of_some _ e)
  have I := lam_inv (P := P) (w := w) (K := K) (mg := mg) (base := base) (tk := s.toks + ([(J.x, u)] : List (Str × Value)).length) ok th e0 hr.hd rv hns kp
  refine PySem.W.kla_codeExpr (wpAny_mono ((hbody s H (hr.deeper _)).run [] _ _ H Q I q) (fun v s' hq => ?_) fun e s' hq => hq)
  obtain ⟨w', H', J', rv', q'⟩ := hq
  exact ⟨w', H', J'.os, J'.bare, J'.base, J'.hok, rv', q'⟩
end

/-! ### defs that get such a lambda -/
structure FnJ (P : Program) (w : World) (K : PySem.W.Frag) (mg : Str → Option Value) (base : Heap) (J : Jd) (k : Nat) (f : Addr) (fd : FuncData) (ps : List Str) (sp : Sp) : Prop where
  len : ∀ vs H Q E, sp vs H Q E → vs.length = ps.length
  run : ∀ (A : Around) (outer : List Env) (s : Shared) (H : Hp) (args : Args) (us : List Value) (vs : List V) (Q : VK) (E : XK), Room k A → There J s H (frs outer) → Env0 P w K mg base A outer s H →
    BindsTo s fd args (ps.zip us) → Vals vs us → sp vs H Q E → codeAny (model P w) A (.call (.ref f) args) (CR C8.CX0 outer P w H s Q E) s
structure CalJ (P : Program) (w : World) (K : PySem.W.Frag) (mg : Str → Option Value) (base : Heap) (J : Jd) (k : Nat) (x : Str) (sp : Sp) : Prop where
  ex : ∃ (f : Addr) (fd : FuncData) (ps : List Str), FnJ P w K mg base J k f fd ps sp ∧ mg x = some (.ref f) ∧ PySem.W.keepIn K (.ref f) = true ∧ Binds K fd ps []
section
variable {P : Program} {w : World} {K : PySem.W.Frag} {mg : Str → Option Value} {base : Heap} {J : Jd} {k : Nat} {x : Str} {st : Stmt} {N ps : List Str} {sp : Sp}
theorem cal_ofJ (F : DefOk K mg x st) (S : FnScope N ps (defScope st)) (hb : ∀ f fd, FunD K x x (defArgs st) (defBody st) (defScope st) [] [] f fd → Binds K fd ps []) (len : ∀ vs H Q E, sp vs H Q E → vs.length = ps.length)
    (body : ∀ (f : Addr) (cdv : Value) (A : Around) (outer : List Env) (s : Shared) (H : Hp) (vs : List V) (Q : VK) (E : XK), Room k (A.deeper (envOfC x (defScope st) s.heap.objs.size f cdv)) → There J s H (frs outer) → sp vs H Q E →
      ∃ t, PSs (cxOf C8.CX0 P w K mg base N x (defScope st) f cdv A outer s H E).nox (defBody st) t ∧ t { nx := fun _ H' => Q .non H', rt := Q } (start N vs) H) : CalJ P w K mg base J (k + 1) x sp := by
  obtain ⟨f, fd, F, hm⟩ := F.ex
  refine ⟨f, fd, ps, ?_, hm, F.kp, hb f fd F⟩
  obtain ⟨oc, od, dV, kV, doc, pm, an, cdv, ct, osl, rfl, lk, hcd, _, _⟩ := F.ex
  constructor
  · exact len
  · intro A outer s H args us vs Q E room th env bd rel told
    have stays : ∀ (b : Addr) (o : Obj), base.get? b = some o → s.heap.get? b = some o := fun b o q => (env.bs b o q).1
    have count := len vs H Q E told
    have heap : K.In s.heap := env.mod.kin.keeps stays
    refine codeAny_call_function room.depth (heap _ _ lk) rfl S.co S.gen rfl (PySem.W.codeRec_of heap hcd) ?_
    refine bd _ _ _ _ (wpAny_newFunctionEnv_cells S.kind ?kinds fun e he s1 made => ?_)
    case kinds =>
      intro y hy
      cases S.par y.1 (List.of_mem_zip (a := y.1) (b := y.2) hy).1 with
      | inl q => exact Or.inl q
      | inr q => exact Or.inr (And.intro q (PySem.W.cellsFrom_some _ _ _ (Or.inl q)))
    subst he
    have nolim : s.heap.NoLimit := env.mod.nolimit.keeps stays
    refine And.intro (nolim.keeps made.toInCall.keep) (codeAny_func ?_)
    obtain ⟨t, d, rd⟩ := body f cdv A outer s H vs Q E (room.deeper _) th told
    have inv := inv_start (CX := C8.CX0) (E := E) S room.hd env count rel made
    have ran := (PSs.nox d).run [] s1 (start N vs) H _ inv rd
    refine wpAny_mono ran (fun fl s' out => ?_) (fun e s' out => out)
    match fl, out with
    | .ret u, ⟨v, _, H', J', r, z⟩ => exact ⟨v, H', J'.os, J'.bare, J'.base, J'.hok, r, z⟩
    | .next, ⟨_, H', J', z⟩ => exact ⟨.non, H', J'.os, J'.bare, J'.base, J'.hok, rfl, z⟩
    | .brk, ⟨_, _, _, z⟩ => exact z.elim
    | .cont, ⟨_, _, _, z⟩ => exact z.elim
theorem cal_neverJ (F : DefOk K mg x st) (hb : ∀ f fd, FunD K x x (defArgs st) (defBody st) (defScope st) [] [] f fd → Binds K fd ps []) (no : ∀ vs H Q E, ¬ sp vs H Q E) : CalJ P w K mg base J k x sp := by
  obtain ⟨f, fd, F, hm⟩ := F.ex
  exact ⟨f, fd, ps, ⟨fun vs H Q E h => absurd h (no vs H Q E), fun A outer s H args us vs Q E _ _ _ _ _ h => absurd h (no vs H Q E)⟩, hm, F.kp, hb f fd F⟩
/-- the lambda, where it was got -/
abbrev Zc (P : Program) (w : World) (K : PySem.W.Frag) (mg : Str → Option Value) (base : Heap) (N : List Str) (qual : Str) (scope : Scope) (f : Addr) (cdv : Value) (A : Around) (outer : List Env) (s : Shared) (H : Hp) (E : XK) : Cx := (cxOf C8.CX0 P w K mg base N qual scope f cdv A outer s H E).nox
def HasC (J : Jd) (H : Hp) : Prop := H J.c' = some (CodeO J.c' J.q)
def tJudge (J : Jd) (i : Nat) (tb : TE) (ta : TA) : TE := fun σ H Q => σ[i]? = some (some (.ref J.f)) ∧ ta σ H fun vs H1 => ∃ v, vs = [v] ∧ HasC J H1 ∧ tb [some v, some J.pv] H1 Q
def tCallJ (J : Jd) (sp : Sp) (ta : TA) : TE := fun σ H Q => ta σ H fun vs H1 => HasC J H1 ∧ sp vs H1 Q C8.E0
variable {qual : Str} {scope : Scope} {f : Addr} {cdv : Value} {A : Around} {outer : List Env} {s : Shared} {H : Hp} {E : XK}
theorem there_at (th : There J s H (frs outer)) {pins : List (Addr × Obj)} {σ : L2.St} {H1 : Hp} {s1 : Shared} (I : Inv (Zc P w K mg base N qual scope f cdv A outer s H E) pins σ H1 s1) (hc : HasC J H1) : There J s1 H1 (frs (Zc P w K mg base N qual scope f cdv A outer s H E).stack) := by
  refine th.step I.base hc fun hm => ?_
  have hm : J.f ∈ s.heap.objs.size :: frs outer := hm
  rcases List.mem_cons.mp hm with e | hm
  · have := Heap.lt_size th.ob
    rw [e] at this
    exact absurd this (Nat.lt_irrefl _)
  · exact th.nf hm
theorem pe_judge {y : Str} {i j : Nat} {p pos : Pos} {e : Expr} {tb : TE} {ta : TA} (th : There J s H (frs outer)) (ok : J.Ok) (hr : Room j (Zc P w K mg base N qual scope f cdv A outer s H E).A) (hk : k + 1 ≤ j)
    (hbody : ∀ (A : Around) (outer : List Env) (s : Shared) (H : Hp), Room k (A.deeper (J.env s.heap.objs.size)) → PE (lamC J P w K mg base A outer s H) J.body tb) (hN : N[i]? = some y) (hv : Vis scope y) (ha : PA (Zc P w K mg base N qual scope f cdv A outer s H E) [e] ta)
    (hdb : (y == ("__debug__" : Str)) = false := by decide) (hcd : (y == ("__classdict__" : Str)) = false := by decide)
    (hst : starEach [e] (Zc P w K mg base N qual scope f cdv A outer s H E).env = (false, eval e (Zc P w K mg base N qual scope f cdv A outer s H E).env) :: starEach [] (Zc P w K mg base N qual scope f cdv A outer s H E).env := by rfl) (hpl : (backTo pos (starEach [] (Zc P w K mg base N qual scope f cdv A outer s H E).env)).any (·.1) = false := by rfl) :
    PE (Zc P w K mg base N qual scope f cdv A outer s H E) (.Call (.Name y p) [e] [] pos) (tJudge J i tb ta) := by
  refine ⟨fun pins sZ σ HZ Q I h => ?_⟩
  obtain ⟨hs, ht⟩ := h
  refine wpAny_Call_Name_kw (thn ((pe_var (pos := p) hN hv hdb hcd).run pins sZ σ HZ (fun v H1 => v = .ref J.f ∧ H1 = HZ) I ⟨.ref J.f, hs, rfl, rfl⟩) fun u s1 ⟨v, H1, I1, r1, q1⟩ => ?_)
  obtain ⟨rfl, rfl⟩ := q1
  cases r1
  have keepF : ∀ {pins : List (Addr × Obj)} {σ : L2.St} {H1 : Hp} {s1 : Shared}, Inv (Zc P w K mg base N qual scope f cdv A outer s H E) pins σ H1 s1 → s1.heap.get? J.f = some J.ob := fun I => I.base.keep _ _ th.ob th.nH th.nf (fun z => nomatch (show J.f ∈ ([] : List Addr) from z))
  refine PySem.W.callWith_F ⟨_, _, _, _, keepF I1⟩ (thn (ha.run pos pins s1 σ _ _ I1 ht) fun us s2 ⟨vs, H2, I2, r, q⟩ => ⟨⟨_, _, _, _, keepF I2⟩, ?_⟩) hst hpl
  obtain ⟨v, rfl, hc, q⟩ := q
  obtain ⟨u, eu, rx⟩ := vals1 r
  subst eu
  · refine wpAny_call (codeAny_mono (lam_run (k := k) (E := C8.E0) ok (there_at th I2 hc) I2.env0 (hr.mono hk) rx (fun s H => hbody _ _ s H) q) fun res s' out => ?_)
    match res, out with
    | .error _, z => exact z.elim
    | .ok (.ret _), z => exact I2.after z
    | .ok .next, z => exact z.elim
    | .ok .brk, z => exact z.elim
    | .ok .cont, z => exact z.elim
theorem pe_cJ {y : Str} {p pos : Pos} {e : Expr} {es : List Expr} {ta : TA} {j : Nat} (c : CalJ P w K mg base J k y sp) (th : There J s H (frs outer)) (hr : Room j (Zc P w K mg base N qual scope f cdv A outer s H E).A) (hk : k ≤ j) (hg : Gl (Zc P w K mg base N qual scope f cdv A outer s H E) y)
    (ha : PA (Zc P w K mg base N qual scope f cdv A outer s H E) (e :: es) ta) (hdb : (y == ("__debug__" : Str)) = false := by decide)
    (he : starEach (e :: es) (Zc P w K mg base N qual scope f cdv A outer s H E).env = (false, eval e (Zc P w K mg base N qual scope f cdv A outer s H E).env) :: starEach es (Zc P w K mg base N qual scope f cdv A outer s H E).env := by rfl) (hpl : (backTo pos (starEach es (Zc P w K mg base N qual scope f cdv A outer s H E).env)).any (·.1) = false := by rfl) :
    PE (Zc P w K mg base N qual scope f cdv A outer s H E) (.Call (.Name y p) (e :: es) [] pos) (tCallJ J sp ta) := by
  obtain ⟨g, fd, ps, F, hm, kp, b⟩ := c.ex
  constructor
  intro pins sZ σ HZ Q I h
  refine wpAny_Call_Name_kw (ld_glob I hg hm ?_ hdb)
  refine PySem.W.callWith_K (h₀ := base) I.ok.mod.kin kp ?_ he hpl
  refine thn (ha.run pos pins sZ σ HZ _ I h) fun us s1 ⟨vs, H1, I1, r, hc, q⟩ => And.intro I1.kIn ?_
  have fits : us.length = ps.length := r.length.symm.trans (F.len vs H1 Q C8.E0 q)
  have bt := b s1 us I1.kIn (by rw [List.append_nil]; exact fits)
  rw [List.append_nil] at bt
  refine wpAny_call (codeAny_mono (F.run _ _ s1 H1 ⟨us, []⟩ us vs Q C8.E0 (hr.mono hk) (there_at th I1 hc) I1.env0 bt r q) ?_)
  intro res s' out
  match res, out with
  | .error _, z => exact z.elim
  | .ok (.ret _), z => exact I1.after z
  | .ok .next, z => exact z.elim
  | .ok .brk, z => exact z.elim
  | .ok .cont, z => exact z.elim
end

/-! ### where it is made and handed on -/
def lamB (sc scope : Scope) (x z : Str) : Bool :=
  decide (scope.kind = .function) && !scope.isCoroutine && !scope.isGenerator && decide (x ≠ z) && decide (scope.names.lookup x = some .local) && decide (scope.names.lookup z = some .free) && decide (sc.names.lookup z = some .cell) &&
    scope.names.all fun y => !decide (y.2 = .cell) && (!decide (y.2 = .local) || decide (y.1 = x)) && (!decide (y.2 = .free) || decide (y.1 = z))
structure Stat (J : Jd) (q : Str) (params : Arguments) (body : Expr) (scope : Scope) (x z : Str) (pv : V) : Prop where
  q : J.q = q
  params : J.params = params
  body : J.body = body
  scope : J.scope = scope
  x : J.x = x
  z : J.z = z
  pv : J.pv = pv
def tMkJ (T : List (Addr × Str)) (q : Str) (params : Arguments) (body : Expr) (scope : Scope) (x z : Str) (iz : Nat) (spJ : Jd → Sp) (te : TE) : TE := fun σ H Q => te σ H fun v H1 => Tabs T H1 ∧ ∃ pv, σ[iz]? = some (some pv) ∧
  ∀ (J : Jd) H2, ExtN H1 H2 → Tabs T H2 → J.Ok → HasC J H2 → Stat J q params body scope x z pv → spJ J [v, .ref J.f] H2 Q C8.E0
theorem pe_mkJ {X : Cx} {T : List (Addr × Str)} {spJ : Jd → Sp} {y x z : Str} {c P : Addr} {k j iz : Nat} {params : Arguments} {body : Expr} {scope : Scope} {e1 : Expr} {te : TE} {p lpos pos : Pos} {st : Stmt} (F : DefOk X.K X.mg y st)
    (cj : ∀ J : Jd, J.Ok → (∃ pv, Stat J (X.env.qual ++ "<lambda>") params body scope x z pv) → CalJ X.prog X.w X.K X.mg X.base J k y (spJ J)) (hr : Room j X.A) (hk : k ≤ j) (hg : Gl X y) (he : PE X e1 te) (TB : TabB X.base X.mg c P) (hcode : X.env.code = .ref c)
    (hmT : (P, X.env.qual ++ "<lambda>") ∈ T) (hu : ∀ p ∈ T, p.1 = P → p.2 = X.env.qual ++ "<lambda>") (hdef : defaultsOf params X.env = ([], [])) (L : lamB X.env.scope scope x z = true) (hN : X.N[iz]? = some z)
    (hbind : ∀ (q : Str) (cl : List (Str × Addr)) (pm cv ctv u : Value), bindArgs (PySem.W.kla_fn "<lambda>" q params body scope cl pm cv ctv) ⟨[u], []⟩ = pure [(x, u)])
    (hdb : (y == ("__debug__" : Str)) = false := by decide) (hst : starEach [e1, .Lambda params body scope lpos] X.env = (false, eval e1 X.env) :: starEach [.Lambda params body scope lpos] X.env := by rfl) :
    PE X (.Call (.Name y p) [e1, .Lambda params body scope lpos] [] pos) (tMkJ T (X.env.qual ++ "<lambda>") params body scope x z iz spJ te) := by
  refine ⟨fun pins s σ H Q I h => ?_⟩
  unfold lamB at L
  simp only [Bool.and_eq_true, Bool.or_eq_true, Bool.not_eq_true', decide_eq_true_eq, decide_eq_false_iff_not, List.all_eq_true] at L
  obtain ⟨⟨⟨⟨⟨⟨⟨l1, l2⟩, l3⟩, l4⟩, l5⟩, l6⟩, l7⟩, l8⟩ := L
  obtain ⟨g, gd, FD, hm⟩ := F.ex
  refine wpAny_Call_Name_kw (ld_glob I hg hm ?_ hdb)
  refine PySem.W.callWith_K (h₀ := X.base) I.ok.mod.kin FD.kp ?_ hst (by rfl)
  rw [hst]
  show wpAny _ _ (spliced ((false, eval e1 X.env) :: (false, eval (.Lambda params body scope lpos) X.env) :: [])) _ _ s
  refine Calls.spliced_cons (thn (he.run pins s σ H _ I h) fun u s1 ⟨v, H1, I1, r1, hT, pv, hpv, q⟩ => ?_)
  have hfree : ∀ y ∈ scope.names, y.2 = .free → ∃ c, X.env.cells.lookup y.1 = some c := fun y hy hf => by
    rw [(l8 y hy).2.resolve_left (fun h => h hf)]
    exact I1.ok.has z (.inl l7)
  refine Calls.spliced_cons (lam_make2 I1 TB hcode hmT hu hT hdef hfree fun f c' pm ctv H2 s' I2 eN T2 hf hfn hfr hco => ?_)
  refine Calls.spliced_nil ⟨I2.kIn, ?_⟩
  obtain ⟨cz, hcz⟩ := I1.ok.has z (.inl l7)
  let J : Jd := ⟨f, c', X.env.qual ++ "<lambda>", params, body, scope, cloFrom X.env.cells scope.names [], pm, ctv, x, z, cz, pv⟩
  have st : Stat J (X.env.qual ++ "<lambda>") params body scope x z pv := ⟨rfl, rfl, rfl, rfl, rfl, rfl, rfl⟩
  have zmem : (z, NameKind.free) ∈ scope.names := PySem.mem_of_lookup l6
  have cl1 : ∀ y c, (cloFrom X.env.cells scope.names []).lookup y = some c → y = z ∧ c = cz := fun y c e => by
    rcases cloFrom_mem (PySem.mem_of_lookup e) with hm | ⟨h1, h2⟩
    · cases hm
    · have hy : y = z := (l8 _ h1).2.resolve_left (fun h => h rfl)
      subst hy
      rw [hcz] at h2
      exact ⟨rfl, h2⟩
  have cl2 : (cloFrom X.env.cells scope.names []).lookup z = some cz := by
    obtain ⟨c2, h2⟩ := mem_lookup (cloFrom_has (cells := X.env.cells) (acc := []) zmem)
    rw [h2, (cl1 _ _ h2).2]
  have ok : J.Ok := ⟨l1, l2, l3, l4, l5, fun y hy => (l8 y hy).1.1, fun y hy => (l8 _ (PySem.mem_of_lookup hy)).1.2.resolve_left (fun h => h rfl), fun y hy => (l8 _ (PySem.mem_of_lookup hy)).2.resolve_left (fun h => h rfl), cl1, cl2, fun u => hbind _ _ _ _ _ u⟩
  have th : There J s' H2 (frs X.stack) := by
    refine ⟨hf, hfn, hfr, ?_, I2.freeC z cz hcz, hco⟩
    obtain ⟨m, hn, hl⟩ := I2.loc
    obtain ⟨u', r, q'⟩ := hl iz z pv hN hpv (.inr (.inl l7))
    refine ⟨u', r, ?_⟩
    rcases q' with ⟨k', _⟩ | ⟨_, c3, e', w'⟩
    · have k' : X.env.scope.names.lookup z = some .local := k'
      rw [l7] at k'
      cases k'
    · rw [hcz] at e'
      cases e'
      exact w'
  obtain ⟨g', fd, ps, FJ, hm', kp', b⟩ := (cj J ok ⟨pv, st⟩).ex
  obtain rfl : g = g' := by
    rw [hm] at hm'
    cases hm'
    rfl
  have q := q J H2 eN T2 ok hco st
  have fits : ([u, .ref f] : List Value).length = ps.length := (FJ.len _ H2 Q C8.E0 q)
  have bt := b s' [u, .ref f] I2.kIn (by rw [List.append_nil]; exact fits)
  rw [List.append_nil] at bt
  refine wpAny_call (codeAny_mono (FJ.run X.A X.stack s' H2 ⟨[u, .ref f], []⟩ [u, .ref f] [v, .ref f] Q C8.E0 (hr.mono hk) th I2.env0 bt (.cons r1 (.cons rfl .nil)) q) ?_)
  intro res s2 out
  match res, out with
  | .error _, z => exact z.elim
  | .ok (.ret _), z => exact I2.after z
  | .ok .next, z => exact z.elim
  | .ok .brk, z => exact z.elim
  | .ok .cont, z => exact z.elim

/-! ### a def that makes one: its code object is told -/
theorem cal_ofL {P : Program} {w : World} {K : PySem.W.Frag} {mg : Str → Option Value} {base : Heap} {x : Str} {st : Stmt} {N ps : List Str} {k : Nat} {sp : Sp} (F : DefOk K mg x st) (hw : mg x = some (.ref (He.fAd K (x, none)))) (S : FnScope N ps (defScope st))
    (hb : ∀ f fd, FunD K x x (defArgs st) (defBody st) (defScope st) [] [] f fd → Binds K fd ps []) (len : ∀ vs H Q E, sp vs H Q E → vs.length = ps.length)
    (body : ∀ (f : Addr) (cdv : Value) (A : Around) (outer : List Env) (s : Shared) (H : Hp) (vs : List V) (Q : VK) (E : XK), cdv = .ref (He.cT K (x, none)).1 → Room k (A.deeper (envOfC x (defScope st) s.heap.objs.size f cdv)) → sp vs H Q E →
      ∃ t, PSs (cxOf C8.CX0 P w K mg base N x (defScope st) f cdv A outer s H E).nox (defBody st) t ∧ t { nx := fun _ H' => Q .non H', rt := Q } (start N vs) H) : C8.Cal P w K mg base (k + 1) x sp [] := by
  obtain ⟨f, fd, F, hm⟩ := F.ex
  have ef : f = He.fAd K (x, none) := by
    rw [hm] at hw
    cases hw
    rfl
  refine ⟨f, fd, ps, [], ?_, hm, F.kp, hb f fd F, .nil⟩
  obtain ⟨oc, od, dV, kV, doc, pm, an, cdv, ct, osl, rfl, lk, hcd, _, _⟩ := F.ex
  obtain ⟨c, rfl⟩ := He.codeIn_ref hcd
  have ec : (He.cT K (x, none)).1 = c := He.codeOf_eq (p := (x, none)) (ef ▸ lk) rfl
  refine fn_of lk hcd S len fun A outer s H vs Q E hr h => ?_
  obtain ⟨t, h1, h2⟩ := body f (.ref c) A outer s H vs Q E (by rw [ec]) hr h
  exact ⟨t, PSs.nox h1, h2⟩
theorem ExtN.tk {H H' : Hp} (e : ExtN H H') : TK H H' := fun a xs h => e a _ h (by intro ps z; cases z)
theorem extN_of {H H' : Hp} (s : Same H H') : ExtN H H' := fun b o e _ => s b o e
section
variable {σ : L2.St} {H : Hp} {Q : VK} {J : Jd} {spJ : Jd → Sp} {sp : Sp} {ta : TA} {te tb : TE} {T : List (Addr × Str)} {q : Str} {params : Arguments} {body : Expr} {scope : Scope} {x z : Str} {iz i : Nat}
theorem e_cJ (h : ta σ H fun vs H1 => HasC J H1 ∧ sp vs H1 Q C8.E0) : tCallJ J sp ta σ H Q := h
theorem e_judge (e : σ[i]? = some (some (.ref J.f))) (h : ta σ H fun vs H1 => ∃ v, vs = [v] ∧ HasC J H1 ∧ tb [some v, some J.pv] H1 Q) : tJudge J i tb ta σ H Q := ⟨e, h⟩
theorem e_mkJ (h : te σ H fun v H1 => Tabs T H1 ∧ ∃ pv, σ[iz]? = some (some pv) ∧ ∀ (J : Jd) H2, ExtN H1 H2 → Tabs T H2 → J.Ok → HasC J H2 → Stat J q params body scope x z pv → spJ J [v, .ref J.f] H2 Q C8.E0) : tMkJ T q params body scope x z iz spJ te σ H Q := h
end
end WL
namespace WD
open PySem PySem.Spec PyProof.Rows L2 Wy
theorem uu {a c : Nat} (h : a + 64 < c) : a + 1 < c := by omega
/-! ### dicts of texts -/
def rLnD : List V → Hp → VK → Prop := fun xs H Q => ∃ a kvs, xs = [.ref a] ∧ H a = some (.dK kvs) ∧ Q (.int (kvs.length : Nat)) H
theorem call_lenD {X : Cx} : CallR X (.builtin "len") rLnD := by
  intro pins s σ H xs us Q I r h
  obtain ⟨p, kvs, rfl, hk, q⟩ := h
  obtain ⟨u, eu, rx⟩ := vals1 r
  subst eu
  obtain rfl : u = Value.ref p := rx
  exact d_len I (.inl hk) fun t s' I' => ⟨.int (kvs.length : Nat), H, I', ⟨t, rfl⟩, q⟩
section
variable {K : PySem.W.Frag} {σ : L2.St} {H : Hp} {Q : VK} {td ty tv : TE} {D : Ends}
def KD (x y : V) (H : Hp) (Q : VK) : Prop := ∃ a v, x = .ref a ∧ DGet H a y (some v) ∧ Q v H
def KP (v x y : V) (σ : L2.St) (H : Hp) (N : L2.St → Hp → Prop) : Prop := ∃ a H4, x = .ref a ∧ DPut H a y v H4 ∧ N σ H4
theorem e_dnew (h : ∀ p H2, H p = none → Same H H2 → H2 p = some (.dK []) → Q (.ref p) H2) : tDNewK σ H Q := new_same h
theorem e_dget (h : td σ H fun x H1 => ty σ H1 fun y H2 => KD x y H2 Q) : tDGet td ty σ H Q := h
theorem k_d {a : Addr} {kvs : List (Key × V)} {n : Str} {v : V} (e : H a = some (.dK kvs)) (g : valV kvs (.inr n) = some v) (h : Q v H) : KD (.ref a) (.str n) H Q :=
  ⟨a, v, rfl, g ▸ DGet.k (k := .inr n) e, h⟩
theorem s_dput (h : tv σ H fun v H1 => td σ H1 fun x H2 => ty σ H2 fun y H3 => KP v x y σ H3 D.nx) : sDPut td ty tv D σ H := h
theorem k_p {a : Addr} {kvs : List (Key × V)} {n : Str} {v : V} {N : L2.St → Hp → Prop} (e : H a = some (.dK kvs)) (hl : kvs.length < sizeLine) (h : ∀ H2, Chg a H H2 → H2 a = some (.dK (putK kvs (.inr n) v)) → N σ H2) :
    KP v (.ref a) (.str n) σ H N := ⟨a, _, rfl, DPut.k (k := .inr n) e hl, h _ chg_upd upd_same⟩
theorem b_lenD {a : Addr} {kvs : List (Key × V)} (e : H a = some (.dK kvs)) (h : Q (.int (kvs.length : Nat)) H) : rLnD [.ref a] H Q := ⟨a, kvs, rfl, e, h⟩
theorem b_lstD {a : Addr} {kvs : List (Key × V)} (e : H a = some (.dK kvs)) (h : ∀ p H2, H p = none → Same H H2 → H2 p = some (.lst (kvs.map fun kv => kV kv.1)) → Q (.ref p) H2) : rListD [.ref a] H Q := ⟨a, kvs, rfl, e, new_same h⟩
def rTup (K : PySem.W.Frag) : List V → Hp → VK → Prop := fun xs H Q => ∃ p ys, xs = [.ref p] ∧ ((SqL K H p ys ∧ ∀ l, H l = none → Q (.ref l) (upd H l (.tup ys))) ∨ (SqT K H p ys ∧ Q (.ref p) H))
theorem call_tup2 {X : Cx} : CallR X (.type "tuple") (rTup X.K) := call_tuple_of
theorem b_tup {a : Addr} {xs : List V} (hs : SqL K H a xs) (h : ∀ p H2, H p = none → Same H H2 → H2 p = some (.tup xs) → Q (.ref p) H2) : rTup K [.ref a] H Q := ⟨a, xs, rfl, .inl ⟨hs, new_same h⟩⟩
theorem m_idx {a : Addr} {ys : List V} {y : V} {j : Nat} {z : V} (hs : SqL K H a ys) (f1 : flatV y = true) (f2 : ys.all flatV = true) (g : ys[j]? = some z) (e : eqV z y = true)
    (no : ∀ (m : Nat) (z' : V), m < j → ys[m]? = some z' → eqV z' y = false) (h : Q (.int (j : Nat)) H) : rIndex K (.ref a) [y] H Q := ⟨a, ys, y, j, z, rfl, rfl, hs, f1, f2, g, e, no, h⟩
end
/-- the names with their values, as far as there are values -/
def kv (ns : List Str) (vs : List V) : List (Key × V) := (ns.zip vs).map fun p => (.inr p.1, p.2)
theorem kv_len {ns : List Str} {vs : List V} (h : vs.length ≤ ns.length) : (kv ns vs).length = vs.length := by
  unfold kv
  rw [List.length_map, List.length_zip]
  omega
theorem kv_get : ∀ {ns : List Str} {vs : List V} {j : Nat} {n : Str} {v : V}, ns.Nodup → ns[j]? = some n → vs[j]? = some v → valV (kv ns vs) (.inr n) = some v
  | [], _, _, _, _, _, h, _ => by cases h
  | _ :: _, [], _, _, _, _, _, h => by cases h
  | m :: ns, u :: vs, 0, n, v, _, h1, h2 => by
    cases h1
    cases h2
    exact valV_pos (p := (Sum.inr m, u)) rfl
  | m :: ns, u :: vs, j + 1, n, v, hd, h1, h2 => by
    have h1 : ns[j]? = some n := h1
    have h2 : vs[j]? = some v := h2
    have hd := List.nodup_cons.mp hd
    have ne : ¬ (Sum.inr m : Key) = Sum.inr n := fun e => hd.1 (by
      have e2 : m = n := Sum.inr.inj e
      rw [e2]
      exact List.mem_of_getElem? h1)
    exact (valV_neg (p := (Sum.inr m, u)) ne).trans (kv_get hd.2 h1 h2)
theorem zip_fst : ∀ (ns : List Str) (vs : List V), (ns.zip vs).map Prod.fst = ns.take vs.length
  | [], _ => by simp
  | _ :: _, [] => rfl
  | n :: ns, _ :: vs => congrArg (n :: ·) (zip_fst ns vs)
theorem zip_cut : ∀ (ns : List Str) (vs : List V), ns.zip vs = (ns.take vs.length).zip vs
  | [], _ => by simp
  | _ :: _, [] => rfl
  | n :: ns, v :: vs => congrArg ((n, v) :: ·) (zip_cut ns vs)
theorem kv_any {ns : List Str} {vs : List V} {n : Str} : ((kv ns vs).any fun p => decide (p.1 = (.inr n : Key))) = true ↔ n ∈ (ns.take vs.length) := by
  unfold kv
  rw [List.any_map, List.any_eq_true]
  constructor
  · rintro ⟨⟨a, b⟩, hm, h⟩
    have h : (Sum.inr a : Key) = Sum.inr n := of_decide_eq_true h
    have e : a = n := Sum.inr.inj h
    subst e
    have : a ∈ (ns.zip vs).map Prod.fst := List.mem_map.mpr ⟨_, hm, rfl⟩
    rw [zip_fst] at this
    exact this
  · intro h
    have : n ∈ (ns.zip vs).map Prod.fst := by
      rw [zip_fst]
      exact h
    obtain ⟨⟨a, b⟩, hm, e⟩ := List.mem_map.mp this
    exact ⟨(a, b), hm, decide_eq_true (by rw [← e])⟩
theorem kv_new {ns : List Str} {vs : List V} {n : Str} {v : V} (hd : ns.Nodup) (h : ns[vs.length]? = some n) : putK (kv ns vs) (.inr n) v = kv ns (vs ++ [v]) := by
  have no : n ∉ ns.take vs.length := by
    intro hm
    obtain ⟨i, hi, e⟩ := List.getElem_of_mem hm
    obtain ⟨hl, e2⟩ := List.getElem?_eq_some_iff.mp h
    rw [List.length_take] at hi
    rw [List.getElem_take] at e
    have := (List.getElem_inj hd).mp (e.trans e2.symm)
    omega
  unfold putK
  rw [if_neg (fun e => no (kv_any.mp e))]
  unfold kv
  obtain ⟨hl, e2⟩ := List.getElem?_eq_some_iff.mp h
  have e3 : ns = ns.take vs.length ++ n :: ns.drop (vs.length + 1) := by
    rw [← e2, List.getElem_cons_drop, List.take_append_drop]
  have e4 : ns.zip vs = (ns.take vs.length).zip vs := zip_cut ns vs
  have l1 : (ns.take vs.length).length = vs.length := by rw [List.length_take]; omega
  have e5 : ns.zip (vs ++ [v]) = (ns.take vs.length).zip vs ++ [(n, v)] := by
    conv => lhs; rw [e3]
    rw [List.zip_append l1]
    simp
  rw [e4, e5, List.map_append]
  rfl
theorem kv_set : ∀ {ns : List Str} {vs : List V} {j : Nat} {n : Str} {v : V}, ns.Nodup → ns[j]? = some n → j < vs.length → (kv ns vs).map (fun p => if p.1 = (.inr n : Key) then (p.1, v) else p) = kv ns (vs.set j v)
  | [], _, _, _, _, _, h, _ => by cases h
  | _ :: _, [], _, _, _, _, _, h => absurd h (Nat.not_lt_zero _)
  | m :: ns, u :: vs, 0, n, v, hd, h1, h2 => by
    cases h1
    have hd := List.nodup_cons.mp hd
    show (if (Sum.inr m : Key) = Sum.inr m then _ else _) :: _ = (_ :: _ : List (Key × V))
    rw [if_pos rfl]
    refine congrArg (_ :: ·) ?_
    refine (List.map_congr_left fun p hp => ?_).trans (List.map_id _)
    obtain ⟨⟨a, b⟩, hm, e⟩ := List.mem_map.mp hp
    rw [if_neg ?_]
    · rfl
    · rw [← e]
      intro e2
      exact hd.1 (Sum.inr.inj e2 ▸ (List.of_mem_zip hm).1)
  | m :: ns, u :: vs, j + 1, n, v, hd, h1, h2 => by
    have h1 : ns[j]? = some n := h1
    have hd := List.nodup_cons.mp hd
    have ne : ¬ (Sum.inr m : Key) = Sum.inr n := fun e => hd.1 (by
      have e2 : m = n := Sum.inr.inj e
      rw [e2]
      exact List.mem_of_getElem? h1)
    show (if (Sum.inr m : Key) = Sum.inr n then _ else _) :: _ = (_ :: _ : List (Key × V))
    rw [if_neg ne]
    exact congrArg (_ :: ·) (kv_set hd.2 h1 (Nat.lt_of_succ_lt_succ h2))
theorem kv_put {ns : List Str} {vs : List V} {j : Nat} {n : Str} {v : V} (hd : ns.Nodup) (h : ns[j]? = some n) (hj : j < vs.length) : putK (kv ns vs) (.inr n) v = kv ns (vs.set j v) := by
  obtain ⟨hl, e2⟩ := List.getElem?_eq_some_iff.mp h
  have hm : n ∈ ns.take vs.length := by
    rw [← e2]
    exact List.mem_take_iff_getElem.mpr ⟨j, by omega, rfl⟩
  unfold putK
  rw [if_pos (kv_any.mpr hm)]
  exact kv_set hd h hj
theorem kv_keys {ns : List Str} {vs : List V} (h : vs.length = ns.length) : (kv ns vs).map (fun p => kV p.1) = ns.map V.str := by
  unfold kv
  rw [List.map_map]
  have : ((fun p : Key × V => kV p.1) ∘ fun p : Str × V => ((.inr p.1 : Key), p.2)) = V.str ∘ Prod.fst := rfl
  rw [this, ← List.map_map, List.map_fst_zip (by omega)]
/-! ### the questions and their answers -/
inductive X9 where
  | num (n : Int)
  | var (k : Nat) (p : Int)
  | item (j : Nat) (i : X9) (p : Int)
abbrev nm (ns : List Str) (k : Nat) : Str := ns.getD k ""
def X9.d (ns : List Str) : X9 → PyData
  | .num n => .tuple [.str "num", .int n]
  | .var k p => .tuple [.str "var", .str (nm ns k), .int p]
  | .item j i p => .tuple [.str "item", .str (nm ns (4 + j)), i.d ns, .int p]
def X9.plain : X9 → Prop
  | .num _ => True
  | .var k _ => k < 4
  | .item _ _ _ => False
def X9.good : X9 → Prop
  | .num _ => True
  | .var k _ => k < 4
  | .item j i _ => j < 2 ∧ i.plain
theorem X9.plain.good {e : X9} (h : e.plain) : e.good := by
  cases e with
  | num _ => exact True.intro
  | var _ _ => exact h
  | item _ _ _ => exact h.elim
def X9.dep : X9 → Nat
  | .item _ _ _ => 1
  | _ => 0
theorem X9.plain.dep {e : X9} (h : e.plain) : e.dep = 0 := by
  cases e with
  | num _ => rfl
  | var _ _ => rfl
  | item _ _ _ => exact h.elim
theorem X9.dep_le (e : X9) : e.dep < 2 := by
  cases e <;> simp [X9.dep]
def X9.ev (is : List Int) (ls : List (List Int)) : X9 → Option Int
  | .num n => some n
  | .var k p => some (is.getD k 0 + p)
  | .item j i p => match i.ev is ls with
    | none => none
    | some a => if 0 ≤ a ∧ a < (ls.getD j []).length then some ((ls.getD j []).getD a.toNat 0 + p) else none
def oI : Option Int → V
  | none => .non
  | some i => .int i
def oB : Option Bool → V
  | none => .non
  | some b => .bl b
theorem X9.plain.ev {e : X9} (h : e.plain) (is : List Int) (ls : List (List Int)) : ∃ i, e.ev is ls = some i := by
  cases e with
  | num n => exact ⟨n, rfl⟩
  | var k p => exact ⟨_, rfl⟩
  | item _ _ _ => exact h.elim
abbrev SG : List Str := ["<", "<=", ">", ">=", "==", "!="]
def cmpB : Nat → Int → Int → Bool
  | 0, a, b => decide (a < b)
  | 1, a, b => decide (a ≤ b)
  | 2, a, b => decide (a > b)
  | 3, a, b => decide (a ≥ b)
  | 4, a, b => decide (a = b)
  | _, a, b => !decide (a = b)
inductive Cn where
  | cmp (k : Nat) (l r : X9)
  | no (c : Cn)
  | jn (o : Bool) (cs : List Cn)
abbrev jw (o : Bool) : Str := if o then "or" else "and"
mutual
def Cn.d (ns : List Str) : Cn → PyData
  | .cmp k l r => .tuple [.str "cmp", .str (SG.getD k ""), l.d ns, r.d ns]
  | .no c => .tuple [.str "not", c.d ns]
  | .jn o cs => .tuple [.str (jw o), .tuple (Cn.ds ns cs)]
def Cn.ds (ns : List Str) : List Cn → List PyData
  | [] => []
  | c :: cs => c.d ns :: Cn.ds ns cs
end
mutual
def Cn.ok : Nat → Cn → Prop
  | _, .cmp k l r => k < 6 ∧ l.good ∧ r.good
  | 0, .no _ => False
  | n + 1, .no c => c.ok n
  | 0, .jn _ _ => False
  | n + 1, .jn _ cs => Cn.oks n cs
def Cn.oks : Nat → List Cn → Prop
  | _, [] => True
  | n, c :: cs => c.ok n ∧ Cn.oks n cs
end
def cmpO (k : Nat) : Option Int → Option Int → Option Bool
  | some a, some b => some (cmpB k a b)
  | _, _ => none
mutual
def Cn.ev (is : List Int) (ls : List (List Int)) : Cn → Option Bool
  | .cmp k l r => cmpO k (l.ev is ls) (r.ev is ls)
  | .no c => (c.ev is ls).map fun b => !b
  | .jn o cs => Cn.evs is ls o cs
def Cn.evs (is : List Int) (ls : List (List Int)) (o : Bool) : List Cn → Option Bool
  | [] => some (!o)
  | c :: cs => match c.ev is ls with
    | none => none
    | some b => if b = o then some b else Cn.evs is ls o cs
end
theorem Cn.ds_get {ns : List Str} : ∀ {cs : List Cn} {i : Nat} {c : Cn}, cs[i]? = some c → (Cn.ds ns cs)[i]? = some (c.d ns)
  | [], _, _, h => by cases h
  | c :: cs, 0, _, h => by
    cases h
    rfl
  | c :: cs, i + 1, _, h => by
    have h : cs[i]? = some _ := h
    exact Cn.ds_get (cs := cs) (i := i) h
theorem Cn.ds_len {ns : List Str} : ∀ {cs : List Cn}, (Cn.ds ns cs).length = cs.length
  | [] => rfl
  | c :: cs => congrArg (· + 1) Cn.ds_len
theorem Cn.ds_snoc {ns : List Str} {c : Cn} : ∀ {cs : List Cn}, Cn.ds ns (cs ++ [c]) = Cn.ds ns cs ++ [c.d ns]
  | [] => rfl
  | _ :: _ => congrArg (_ :: ·) Cn.ds_snoc
theorem Cn.oks_get {n : Nat} : ∀ {cs : List Cn} {i : Nat} {c : Cn}, Cn.oks n cs → cs[i]? = some c → c.ok n
  | [], _, _, _, h => by cases h
  | c :: cs, 0, _, g, h => by
    cases h
    exact g.1
  | c :: cs, i + 1, _, g, h => by
    have h : cs[i]? = some _ := h
    exact Cn.oks_get g.2 h
theorem Cn.oks_snoc {n : Nat} {c : Cn} : ∀ {cs : List Cn}, Cn.oks n cs → c.ok n → Cn.oks n (cs ++ [c])
  | [], _, h => ⟨h, True.intro⟩
  | _ :: _, g, h => ⟨g.1, Cn.oks_snoc g.2 h⟩
theorem Cn.evs_drop {is : List Int} {ls : List (List Int)} {o : Bool} {cs : List Cn} {i : Nat} {c : Cn} (h : cs[i]? = some c) :
    Cn.evs is ls o (cs.drop i) = match c.ev is ls with | none => none | some b => if b = o then some b else Cn.evs is ls o (cs.drop (i + 1)) := by
  obtain ⟨hl, e⟩ := List.getElem?_eq_some_iff.mp h
  rw [List.drop_eq_getElem_cons hl, e]
  rfl
/-! ### the parts of the data -/
theorem tp4 {H : Hp} {v : V} {d1 d2 d3 d4 : PyData} (h : Tp H v (.tuple [d1, d2, d3, d4])) : ∃ a v1 v2 v3 v4, v = .ref a ∧ H a = some (.tup [v1, v2, v3, v4]) ∧ Tp H v1 d1 ∧ Tp H v2 d2 ∧ Tp H v3 d3 ∧ Tp H v4 d4 := by
  cases h with
  | tup e r =>
    cases r with | cons h1 r => cases r with | cons h2 r => cases r with | cons h3 r => cases r with | cons h4 r =>
      cases r
      exact ⟨_, _, _, _, _, rfl, e, h1, h2, h3, h4⟩
theorem tp3 {H : Hp} {v : V} {d1 d2 d3 : PyData} (h : Tp H v (.tuple [d1, d2, d3])) : ∃ a v1 v2 v3, v = .ref a ∧ H a = some (.tup [v1, v2, v3]) ∧ Tp H v1 d1 ∧ Tp H v2 d2 ∧ Tp H v3 d3 := by
  cases h with
  | tup e r =>
    cases r with | cons h1 r => cases r with | cons h2 r => cases r with | cons h3 r =>
      cases r
      exact ⟨_, _, _, _, rfl, e, h1, h2, h3⟩
theorem tp2 {H : Hp} {v : V} {d1 d2 : PyData} (h : Tp H v (.tuple [d1, d2])) : ∃ a v1 v2, v = .ref a ∧ H a = some (.tup [v1, v2]) ∧ Tp H v1 d1 ∧ Tp H v2 d2 := by
  cases h with
  | tup e r =>
    cases r with | cons h1 r => cases r with | cons h2 r =>
      cases r
      exact ⟨_, _, _, rfl, e, h1, h2⟩
theorem tpL {H : Hp} {v : V} {ds : List PyData} (h : Tp H v (.tuple ds)) : ∃ a vs, v = .ref a ∧ H a = some (.tup vs) ∧ TpAll H vs ds := by
  cases h with
  | tup e r => exact ⟨_, _, rfl, e, r⟩
theorem tp_str {H : Hp} {v : V} {x : Str} (h : Tp H v (.str x)) : v = .str x := by
  cases h
  rfl
theorem tp_int {H : Hp} {v : V} {x : Int} (h : Tp H v (.int x)) : v = .int x := by
  cases h
  rfl
theorem tpSnoc {H : Hp} {v : V} {d : PyData} : ∀ {vs : List V} {ds : List PyData}, TpAll H vs ds → Tp H v d → TpAll H (vs ++ [v]) (ds ++ [d])
  | _, _, .nil, h => .cons h .nil
  | _, _, .cons h1 h2, h => .cons h1 (tpSnoc h2 h)
/-! ### the variables -/
def CellAt (H : Hp) (is : List Int) (ls : List (List Int)) (j : Nat) (v : V) : Prop :=
  (∃ x, is[j]? = some x ∧ v = .int x) ∨ ∃ a xs, 4 ≤ j ∧ ls[j - 4]? = some xs ∧ v = .ref a ∧ H a = some (.lst (xs.map V.int))
theorem CellAt.same {H H' : Hp} {is : List Int} {ls : List (List Int)} {j : Nat} {v : V} (s : Same H H') (c : CellAt H is ls j v) : CellAt H' is ls j v := by
  rcases c with c | ⟨a, xs, h1, h2, h3, h4⟩
  · exact .inl c
  · exact .inr ⟨a, xs, h1, h2, h3, s _ _ h4⟩
def EnvAt (H : Hp) (p : Addr) (ns : List Str) (is : List Int) (ls : List (List Int)) : Prop :=
  is.length = 4 ∧ ls.length = 2 ∧ ns.length = 6 ∧ ns.Nodup ∧ ∃ vs : List V, vs.length = 6 ∧ H p = some (.dK (kv ns vs)) ∧ ∀ j v, vs[j]? = some v → CellAt H is ls j v
theorem EnvAt.same {H H' : Hp} {p : Addr} {ns : List Str} {is : List Int} {ls : List (List Int)} (s : Same H H') (e : EnvAt H p ns is ls) : EnvAt H' p ns is ls := by
  obtain ⟨h1, h2, h3, h4, vs, h5, h6, h7⟩ := e
  exact ⟨h1, h2, h3, h4, vs, h5, s _ _ h6, fun j v g => (h7 j v g).same s⟩
theorem nm_at {ns : List Str} {k : Nat} (h : k < ns.length) : ns[k]? = some (nm ns k) := by
  unfold nm
  rw [List.getD_eq_getElem?_getD, List.getElem?_eq_getElem h]
  rfl
/-- a number out of the variables -/
theorem EnvAt.int {H : Hp} {p : Addr} {ns : List Str} {is : List Int} {ls : List (List Int)} (e : EnvAt H p ns is ls) {k : Nat} (hk : k < 4) : ∃ kvs, H p = some (.dK kvs) ∧ valV kvs (.inr (nm ns k)) = some (.int (is.getD k 0)) := by
  obtain ⟨h1, h2, h3, h4, vs, h5, h6, h7⟩ := e
  have g : vs[k]? = some vs[k] := List.getElem?_eq_getElem (by omega)
  refine ⟨_, h6, ?_⟩
  have e := kv_get h4 (nm_at (by omega)) g
  rw [e]
  rcases h7 k _ g with ⟨x, c1, c2⟩ | ⟨a, xs, c1, _⟩
  · rw [c2, List.getD_eq_getElem?_getD, c1]
    rfl
  · omega
theorem EnvAt.lst {H : Hp} {p : Addr} {ns : List Str} {is : List Int} {ls : List (List Int)} (e : EnvAt H p ns is ls) {j : Nat} (hj : j < 2) :
    ∃ kvs a, H p = some (.dK kvs) ∧ valV kvs (.inr (nm ns (4 + j))) = some (.ref a) ∧ H a = some (.lst ((ls.getD j []).map V.int)) := by
  obtain ⟨h1, h2, h3, h4, vs, h5, h6, h7⟩ := e
  have g : vs[4 + j]? = some vs[4 + j] := List.getElem?_eq_getElem (by omega)
  have e := kv_get h4 (nm_at (by omega)) g
  rcases h7 _ _ g with ⟨x, c1, c2⟩ | ⟨a, xs, c1, c2, c3, c4⟩
  · have := (List.getElem?_eq_some_iff.mp c1).1
    omega
  · refine ⟨_, a, h6, by rw [e, c3], ?_⟩
    have e2 : ls.getD j [] = xs := by
      rw [List.getD_eq_getElem?_getD]
      rw [show 4 + j - 4 = j by omega] at c2
      rw [c2]
      rfl
    rw [e2]
    exact c4
/-! ### the names -/
abbrev PADS : List Str := ["", "u", "zzzzzzzzzzz", "uz"]
def let9 (k : Nat) : Str := ⟨#[("abcdxy" : Str).cps.toList.getD k 0]⟩
def namesOf (k : Nat) : List Str := (PADS.map fun p => let9 k ++ p) ++ PADS.map fun p => p ++ let9 k
theorem names_apart : ∀ i, i < 6 → ∀ j, j < 6 → i ≠ j → ∀ x ∈ namesOf i, ∀ y ∈ namesOf j, x ≠ y := by decide +kernel
def NamesOk (ns : List Str) : Prop := ∀ i n, ns[i]? = some n → n ∈ namesOf i
theorem names_nodup {ns : List Str} (h : NamesOk ns) (hl : ns.length ≤ 6) : ns.Nodup := by
  rw [List.nodup_iff_pairwise_ne, List.pairwise_iff_getElem]
  intro i j hi hj lt
  exact names_apart i (by omega) j (by omega) (by omega) _ (h i _ (List.getElem?_eq_getElem hi)) _ (h j _ (List.getElem?_eq_getElem hj))
end WD
local macro_rules | `(tactic| walk_at "tr") => `(tactic| first | assumption | exact lst_of (by assumption) | exact tup_of (by assumption) | (refine Same.seq (by assumption) ?_; walk_at "tr") | (refine seqT (by assumption) ?_; walk_at "tr"))
local macro_rules | `(tactic| walk_at "s") => `(tactic| with_reducible first
  | refine s_seq ?_ | refine s_asg ?_ | refine g_name ?_ | refine s_ret ?_ | refine s_retN ?_ | refine s_drop ?_ | refine s_if ?_ | refine s_next ?_ | refine s_brk ?_ | refine s_ct ?_ | refine s_for ?_
  | refine e_var (by with_unfolding_all rfl) ?_ | refine e_c ?_ | refine e_op ?_ | refine e_un ?_ | refine a_cons ?_ | refine a_nil ?_ | refine c_b ?_ | refine c_call ?_ | refine t_test ?_ | refine k_bl ?_ | refine t_b ?_ | refine t_tr ?_ | refine k_trB ?_ | refine k_trN ?_ | refine k_trI ?_
  | refine t_and ?_ | refine t_or ?_ | refine t_not ?_ | refine e_andV ?_ | refine e_orV ?_ | refine e_notV ?_ | refine e_if ?_ | refine e_chain ?_ | refine e_tup ?_ | refine e_lst ?_ | refine e_sl ?_ | refine p_no ?_ | refine p_so ?_ | refine k_int ?_
  | refine m_bm ?_ | refine g_sub ?_ | refine m_m1 ?_ | refine m_st ?_ | refine e_lc ?_ | refine t_yes ?_ | refine w_r1 ?_ | refine w_r2 ?_ | refine w_l ?_ | refine w_t ?_ | refine w_s ?_ | refine k_s ?_
  | refine s_aug (by with_unfolding_all rfl) ?_ | refine i_add ?_ | refine o_addI ?_ | refine o_I0 ?_ | refine b_int ?_ | refine b_intB ?_ | refine b_abs ?_ | refine u_neg ?_ | refine o_isN ?_ | refine o_ntN ?_ | refine o_inS ?_ | refine o_niS ?_
  | refine g_cons ?_ | refine g_nil ?_ | refine e_joined ?_ | refine j_nil ?_ | refine j_cons ?_ | refine e_fmt ?_
  | refine WD.e_dget ?_ | refine WD.s_dput ?_
  | refine o_mod (by omega) ?_ | refine o_fdiv (by omega) (by omega) ?_ | refine o_pow (by omega) (by omega) (by omega) ?_ | refine o_mulI2 (by omega) (by omega) ?_ | refine o_mulI1 (by omega) (by omega) ?_)
local macro_rules | `(tactic| walk_at "ss") => `(tactic| repeat walk_at "s")
namespace K09
open PySem PySem.Spec PyProof.Rows L2 Wy
/-! ### the text -/
def top (i : Nat) : Stmt := PySem.Challenge.pw_wayorring_k09_values_and_truths.main.body.getD i (.Pass ⟨0, 0, 0, 0⟩)
abbrev s_value_of : Stmt := top 1
abbrev n_value_of : List Str := ["expression", "variables", "_", "name", "plus", "index", "items", "at"]
theorem sc_value_of : FnScope n_value_of ["expression", "variables"] (defScope s_value_of) := C8.fnScope_by (by decide +kernel)
abbrev s_truth_of : Stmt := top 2
abbrev n_truth_of : List Str := ["condition", "variables"]
theorem sc_truth_of : FnScope n_truth_of ["condition", "variables"] (defScope s_truth_of) := C8.fnScope_by (by decide +kernel)
abbrev s_joined_truth : Stmt := top 3
abbrev n_joined_truth : List Str := ["condition", "judge", "truth", "ending", "part"]
theorem sc_joined_truth : FnScope n_joined_truth ["condition", "judge"] (defScope s_joined_truth) := C8.fnScope_by (by decide +kernel)
abbrev s_holds : Stmt := top 4
abbrev n_holds : List Str := ["sign", "left", "right"]
theorem sc_holds : FnScope n_holds ["sign", "left", "right"] (defScope s_holds) := C8.fnScope_by (by decide +kernel)
abbrev s_comparison_truth : Stmt := top 5
abbrev n_comparison_truth : List Str := ["comparison", "variables", "_", "sign", "left", "right", "first", "second"]
theorem sc_comparison_truth : FnScope n_comparison_truth ["comparison", "variables"] (defScope s_comparison_truth) := C8.fnScope_by (by decide +kernel)
abbrev s_law_draws : Stmt := top 7
abbrev n_law_draws : List Str := ["script", "many", "cell", "rests", "draws", "k", "at", "mixed"]
theorem sc_law_draws : FnScope n_law_draws ["script", "many"] (defScope s_law_draws) := C8.fnScope_by (by decide +kernel)
abbrev s_law_take : Stmt := top 8
abbrev n_law_take : List Str := ["hand", "many", "at", "draws"]
theorem sc_law_take : FnScope n_law_take ["hand", "many"] (defScope s_law_take) := C8.fnScope_by (by decide +kernel)
abbrev s_law_wide : Stmt := top 9
abbrev n_law_wide : List Str := ["hand", "many", "first"]
theorem sc_law_wide : FnScope n_law_wide ["hand", "many"] (defScope s_law_wide) := C8.fnScope_by (by decide +kernel)
abbrev s_law_value : Stmt := top 10
abbrev n_law_value : List Str := ["expression", "variables", "cells", "at"]
theorem sc_law_value : FnScope n_law_value ["expression", "variables"] (defScope s_law_value) := C8.fnScope_by (by decide +kernel)
abbrev s_law_compared : Stmt := top 11
abbrev n_law_compared : List Str := ["sign", "left", "right", "truths"]
theorem sc_law_compared : FnScope n_law_compared ["sign", "left", "right"] (defScope s_law_compared) := C8.fnScope_by (by decide +kernel)
abbrev s_law_truth : Stmt := top 12
abbrev n_law_truth : List Str := ["condition", "variables", "left", "right", "truth", "part"]
theorem sc_law_truth : FnScope n_law_truth ["condition", "variables"] (defScope s_law_truth) := C8.fnScope_by (by decide +kernel)
abbrev s_law_some : Stmt := top 13
abbrev n_law_some : List Str := ["hand"]
theorem sc_law_some : FnScope n_law_some ["hand"] (defScope s_law_some) := C8.fnScope_by (by decide +kernel)
abbrev s_law_number : Stmt := top 14
abbrev n_law_number : List Str := ["hand"]
theorem sc_law_number : FnScope n_law_number ["hand"] (defScope s_law_number) := C8.fnScope_by (by decide +kernel)
abbrev s_law_names_of : Stmt := top 15
abbrev n_law_names_of : List Str := ["hand", "names", "k", "pad", "letter"]
theorem sc_law_names_of : FnScope n_law_names_of ["hand"] (defScope s_law_names_of) := C8.fnScope_by (by decide +kernel)
abbrev s_law_plain : Stmt := top 16
abbrev n_law_plain : List Str := ["hand", "names"]
theorem sc_law_plain : FnScope n_law_plain ["hand", "names"] (defScope s_law_plain) := C8.fnScope_by (by decide +kernel)
abbrev s_law_expression : Stmt := top 17
abbrev n_law_expression : List Str := ["hand", "names"]
theorem sc_law_expression : FnScope n_law_expression ["hand", "names"] (defScope s_law_expression) := C8.fnScope_by (by decide +kernel)
abbrev s_law_tree : Stmt := top 18
abbrev n_law_tree : List Str := ["hand", "names", "depth", "purse", "kind", "sign", "many", "parts", "k"]
theorem sc_law_tree : FnScope n_law_tree ["hand", "names", "depth", "purse"] (defScope s_law_tree) := C8.fnScope_by (by decide +kernel)
abbrev s_law_is_value : Stmt := top 19
abbrev n_law_is_value : List Str := ["found", "expected"]
theorem sc_law_is_value : FnScope n_law_is_value ["found", "expected"] (defScope s_law_is_value) := C8.fnScope_by (by decide +kernel)
abbrev s_law_is_truth : Stmt := top 20
abbrev n_law_is_truth : List Str := ["found", "expected"]
theorem sc_law_is_truth : FnScope n_law_is_truth ["found", "expected"] (defScope s_law_is_truth) := C8.fnScope_by (by decide +kernel)
abbrev s_law_copied : Stmt := top 21
abbrev n_law_copied : List Str := ["variables", "names", "found", "at"]
theorem sc_law_copied : FnScope n_law_copied ["variables", "names"] (defScope s_law_copied) := C8.fnScope_by (by decide +kernel)
abbrev s_law : Stmt := top 22
abbrev n_law : List Str := ["script", "hand", "names", "variables", "at", "kept", "expressions", "condition", "step", "one", "other", "k"]
theorem sc_law : FnScope n_law ["script"] (defScope s_law) := C8.fnScope_by (by decide +kernel)
/-! ### what the top has made -/
structure Tx (K : PySem.W.Frag) (mg : Str → Option Value) : Prop where
  d_value_of : DefOk K mg "value_of" s_value_of
  d_truth_of : DefOk K mg "truth_of" s_truth_of
  d_joined_truth : DefOk K mg "joined_truth" s_joined_truth
  d_holds : DefOk K mg "holds" s_holds
  d_comparison_truth : DefOk K mg "_comparison_truth" s_comparison_truth
  d_law_draws : DefOk K mg "_law_draws" s_law_draws
  d_law_take : DefOk K mg "_law_take" s_law_take
  d_law_wide : DefOk K mg "_law_wide" s_law_wide
  d_law_value : DefOk K mg "_law_value" s_law_value
  d_law_compared : DefOk K mg "_law_compared" s_law_compared
  d_law_truth : DefOk K mg "_law_truth" s_law_truth
  d_law_some : DefOk K mg "_law_some" s_law_some
  d_law_number : DefOk K mg "_law_number" s_law_number
  d_law_names_of : DefOk K mg "_law_names_of" s_law_names_of
  d_law_plain : DefOk K mg "_law_plain" s_law_plain
  d_law_expression : DefOk K mg "_law_expression" s_law_expression
  d_law_tree : DefOk K mg "_law_tree" s_law_tree
  d_law_is_value : DefOk K mg "_law_is_value" s_law_is_value
  d_law_is_truth : DefOk K mg "_law_is_truth" s_law_is_truth
  d_law_copied : DefOk K mg "_law_copied" s_law_copied
  d_law : DefOk K mg "law" s_law
  z_abs : mg "abs" = none
  z_bool : mg "bool" = none
  z_int : mg "int" = none
  z_isinstance : mg "isinstance" = none
  z_len : mg "len" = none
  z_list : mg "list" = none
  z_range : mg "range" = none
  z_tuple : mg "tuple" = none
  w_truth_of : mg "truth_of" = some (.ref (He.fAd K ("truth_of", none)))
abbrev lc_truth_of (K : PySem.W.Frag) : Addr × Addr := He.cT K ("truth_of", none)
abbrev lq_truth_of : Str := (envOfC "truth_of" (defScope s_truth_of) 0 0 .none).qual ++ "<lambda>"
def lT (K : PySem.W.Frag) : List (Addr × Str) := [((lc_truth_of K).2, lq_truth_of)]
/-! ### the head -/
def fn : List He.DefD := [⟨("value_of", none), "value_of", "value_of", defArgs s_value_of, defBody s_value_of, defScope s_value_of, [], []⟩, ⟨("truth_of", none), "truth_of", "truth_of", defArgs s_truth_of, defBody s_truth_of, defScope s_truth_of, [], []⟩, ⟨("joined_truth", none), "joined_truth", "joined_truth", defArgs s_joined_truth, defBody s_joined_truth, defScope s_joined_truth, [], []⟩, ⟨("holds", none), "holds", "holds", defArgs s_holds, defBody s_holds, defScope s_holds, [], []⟩, ⟨("_comparison_truth", none), "_comparison_truth", "_comparison_truth", defArgs s_comparison_truth, defBody s_comparison_truth, defScope s_comparison_truth, [], []⟩, ⟨("_law_draws", none), "_law_draws", "_law_draws", defArgs s_law_draws, defBody s_law_draws, defScope s_law_draws, [], []⟩, ⟨("_law_take", none), "_law_take", "_law_take", defArgs s_law_take, defBody s_law_take, defScope s_law_take, [], []⟩, ⟨("_law_wide", none), "_law_wide", "_law_wide", defArgs s_law_wide, defBody s_law_wide, defScope s_law_wide, [], []⟩, ⟨("_law_value", none), "_law_value", "_law_value", defArgs s_law_value, defBody s_law_value, defScope s_law_value, [], []⟩, ⟨("_law_compared", none), "_law_compared", "_law_compared", defArgs s_law_compared, defBody s_law_compared, defScope s_law_compared, [], []⟩, ⟨("_law_truth", none), "_law_truth", "_law_truth", defArgs s_law_truth, defBody s_law_truth, defScope s_law_truth, [], []⟩, ⟨("_law_some", none), "_law_some", "_law_some", defArgs s_law_some, defBody s_law_some, defScope s_law_some, [], []⟩, ⟨("_law_number", none), "_law_number", "_law_number", defArgs s_law_number, defBody s_law_number, defScope s_law_number, [], []⟩, ⟨("_law_names_of", none), "_law_names_of", "_law_names_of", defArgs s_law_names_of, defBody s_law_names_of, defScope s_law_names_of, [], []⟩, ⟨("_law_plain", none), "_law_plain", "_law_plain", defArgs s_law_plain, defBody s_law_plain, defScope s_law_plain, [], []⟩, ⟨("_law_expression", none), "_law_expression", "_law_expression", defArgs s_law_expression, defBody s_law_expression, defScope s_law_expression, [], []⟩, ⟨("_law_tree", none), "_law_tree", "_law_tree", defArgs s_law_tree, defBody s_law_tree, defScope s_law_tree, [], []⟩, ⟨("_law_is_value", none), "_law_is_value", "_law_is_value", defArgs s_law_is_value, defBody s_law_is_value, defScope s_law_is_value, [], []⟩, ⟨("_law_is_truth", none), "_law_is_truth", "_law_is_truth", defArgs s_law_is_truth, defBody s_law_is_truth, defScope s_law_is_truth, [], []⟩, ⟨("_law_copied", none), "_law_copied", "_law_copied", defArgs s_law_copied, defBody s_law_copied, defScope s_law_copied, [], []⟩, ⟨("law", none), "law", "law", defArgs s_law, defBody s_law, defScope s_law, [], []⟩]
def fa : List He.Fa := [.glo "value_of", .glo "truth_of", .glo "joined_truth", .glo "holds", .glo "_comparison_truth", .glo "_law_draws", .glo "_law_take", .glo "_law_wide", .glo "_law_value", .glo "_law_compared", .glo "_law_truth", .glo "_law_some", .glo "_law_number", .glo "_law_names_of", .glo "_law_plain", .glo "_law_expression", .glo "_law_tree", .glo "_law_is_value", .glo "_law_is_truth", .glo "_law_copied", .glo "law", .free "abs", .free "bool", .free "int", .free "isinstance", .free "len", .free "list", .free "range", .free "tuple"]
def ts : List He.Tab := []
def ex (K : PySem.W.Frag) : Bool := true
def tf : List He.Defn := [("truth_of", none)]
abbrev R : PySem.W.OpenRow := PySem.W.OpenLaw.row PySem.Challenge.rw_wayorring_k09_values_and_truths
abbrev hk : PySem.W.Hook := He.hookX 4 fa fn ts tf ex
def ob (s : PySem.W.SharedT) : He.AlX := He.obsX 4 fa fn ts tf ex (HandSHeadRun.getT s)
theorem ob_eq (s : PySem.W.SharedT) : ob s = hk.obs s.abs := He.obsX_eq (HandSHeadRun.getT_eq s)
def loose : List Str := (["value_of", "truth_of", "joined_truth", "holds", "_comparison_truth", "_law_draws", "_law_take", "_law_wide", "_law_value", "_law_compared", "_law_truth", "_law_some", "_law_number", "_law_names_of", "_law_plain", "_law_expression", "_law_tree", "_law_is_value", "_law_is_truth", "_law_copied"] : List Str)
set_option maxHeartbeats 0 in
theorem run (w : World) : HandSHeadRun.RunEq R (PySem.W.view R.prog [22]) hk ob 20000 loose w := by
  intro os
  kernel_rfl
theorem tx_of {w : World} {K : PySem.W.Frag} {h h2 : Heap} {mg : Str → Option Value} (X : K.In h) (G : h.Ns mainGlobals mg) (c2 : He.SaysX fa fn ts tf ex w h2 K) : Tx K mg := by
  have c := c2.t.d
  have m : ex K = true := c2.more
  refine ⟨?_, ?_, ?_, ?_, ?_, ?_, ?_, ?_, ?_, ?_, ?_, ?_, ?_, ?_, ?_, ?_, ?_, ?_, ?_, ?_, ?_, ?_, ?_, ?_, ?_, ?_, ?_, ?_, ?_, ?_⟩
  · obtain ⟨fd, F⟩ := c.def_ 0 rfl
    exact ⟨_, fd, F, He.glo_ok X G (c.fact 0 (f := .glo "value_of") rfl)⟩
  · obtain ⟨fd, F⟩ := c.def_ 1 rfl
    exact ⟨_, fd, F, He.glo_ok X G (c.fact 1 (f := .glo "truth_of") rfl)⟩
  · obtain ⟨fd, F⟩ := c.def_ 2 rfl
    exact ⟨_, fd, F, He.glo_ok X G (c.fact 2 (f := .glo "joined_truth") rfl)⟩
  · obtain ⟨fd, F⟩ := c.def_ 3 rfl
    exact ⟨_, fd, F, He.glo_ok X G (c.fact 3 (f := .glo "holds") rfl)⟩
  · obtain ⟨fd, F⟩ := c.def_ 4 rfl
    exact ⟨_, fd, F, He.glo_ok X G (c.fact 4 (f := .glo "_comparison_truth") rfl)⟩
  · obtain ⟨fd, F⟩ := c.def_ 5 rfl
    exact ⟨_, fd, F, He.glo_ok X G (c.fact 5 (f := .glo "_law_draws") rfl)⟩
  · obtain ⟨fd, F⟩ := c.def_ 6 rfl
    exact ⟨_, fd, F, He.glo_ok X G (c.fact 6 (f := .glo "_law_take") rfl)⟩
  · obtain ⟨fd, F⟩ := c.def_ 7 rfl
    exact ⟨_, fd, F, He.glo_ok X G (c.fact 7 (f := .glo "_law_wide") rfl)⟩
  · obtain ⟨fd, F⟩ := c.def_ 8 rfl
    exact ⟨_, fd, F, He.glo_ok X G (c.fact 8 (f := .glo "_law_value") rfl)⟩
  · obtain ⟨fd, F⟩ := c.def_ 9 rfl
    exact ⟨_, fd, F, He.glo_ok X G (c.fact 9 (f := .glo "_law_compared") rfl)⟩
  · obtain ⟨fd, F⟩ := c.def_ 10 rfl
    exact ⟨_, fd, F, He.glo_ok X G (c.fact 10 (f := .glo "_law_truth") rfl)⟩
  · obtain ⟨fd, F⟩ := c.def_ 11 rfl
    exact ⟨_, fd, F, He.glo_ok X G (c.fact 11 (f := .glo "_law_some") rfl)⟩
  · obtain ⟨fd, F⟩ := c.def_ 12 rfl
    exact ⟨_, fd, F, He.glo_ok X G (c.fact 12 (f := .glo "_law_number") rfl)⟩
  · obtain ⟨fd, F⟩ := c.def_ 13 rfl
    exact ⟨_, fd, F, He.glo_ok X G (c.fact 13 (f := .glo "_law_names_of") rfl)⟩
  · obtain ⟨fd, F⟩ := c.def_ 14 rfl
    exact ⟨_, fd, F, He.glo_ok X G (c.fact 14 (f := .glo "_law_plain") rfl)⟩
  · obtain ⟨fd, F⟩ := c.def_ 15 rfl
    exact ⟨_, fd, F, He.glo_ok X G (c.fact 15 (f := .glo "_law_expression") rfl)⟩
  · obtain ⟨fd, F⟩ := c.def_ 16 rfl
    exact ⟨_, fd, F, He.glo_ok X G (c.fact 16 (f := .glo "_law_tree") rfl)⟩
  · obtain ⟨fd, F⟩ := c.def_ 17 rfl
    exact ⟨_, fd, F, He.glo_ok X G (c.fact 17 (f := .glo "_law_is_value") rfl)⟩
  · obtain ⟨fd, F⟩ := c.def_ 18 rfl
    exact ⟨_, fd, F, He.glo_ok X G (c.fact 18 (f := .glo "_law_is_truth") rfl)⟩
  · obtain ⟨fd, F⟩ := c.def_ 19 rfl
    exact ⟨_, fd, F, He.glo_ok X G (c.fact 19 (f := .glo "_law_copied") rfl)⟩
  · obtain ⟨fd, F⟩ := c.def_ 20 rfl
    exact ⟨_, fd, F, He.glo_ok X G (c.fact 20 (f := .glo "law") rfl)⟩
  · exact He.free_ok X G (c.fact 21 (f := .free "abs") rfl)
  · exact He.free_ok X G (c.fact 22 (f := .free "bool") rfl)
  · exact He.free_ok X G (c.fact 23 (f := .free "int") rfl)
  · exact He.free_ok X G (c.fact 24 (f := .free "isinstance") rfl)
  · exact He.free_ok X G (c.fact 25 (f := .free "len") rfl)
  · exact He.free_ok X G (c.fact 26 (f := .free "list") rfl)
  · exact He.free_ok X G (c.fact 27 (f := .free "range") rfl)
  · exact He.free_ok X G (c.fact 28 (f := .free "tuple") rfl)
  · exact He.glo_ok X G (c.fact 1 (f := .glo "truth_of") rfl)
def spLaw (K : PySem.W.Frag) : Sp := fun vs H Q _ => ∃ (a : Addr) (ns : List Int), vs = [.ref a] ∧ SqL K H a (ns.map V.int) ∧ ns.length ≤ 63 ∧ LamX.Tabs (lT K) H ∧ ∀ H', Q (.bl true) H'
end K09
namespace K09
open PySem PySem.Spec PyProof.Rows L2 Wy WD

-- DICTS variables found kept other
section
variable {P : Program} {w : World} {K : PySem.W.Frag} {mg : Str → Option Value} {base : Heap}
theorem k_law_take (T : Tx K mg) : C8.Cal P w K mg base 1 "_law_take" spTake [] := by
  refine cal_of (N := n_law_take) T.d_law_take sc_law_take (fun _ _ F => F.bindsN fun _ _ _ _ _ _ us hl => match us, hl with | [_, _], _ => rfl) (fun vs H Q E h => ?_) (fun f cdv A outer s H vs Q E hr h => ?_)
  · obtain ⟨a, d, m, rfl, _⟩ := h
    rfl
  · obtain ⟨a, d, m, rfl, hh, hm, q⟩ := h
    have nd := hh.ne
    obtain ⟨n, ds, h1, h2, h3⟩ := hh
    refine ⟨_, (pss_cons (ps_asg (pe_ix (ix_seq : IxR _ (rIx K)) (pv 0) pe_int (fun _ _ => rfl)) (pg_name (i := 2) sc_law_take.nd rfl (Or.inl rfl))) (pss_cons (ps_asg (pe_op op_add3 (pv 2) pe_int) (pg_sub (pv 0) pe_int set_list)) (pss_cons (ps_asg (pe_ix (ix_seq : IxR _ (rIx K)) (pv 0) pe_int (fun _ _ => rfl)) (pg_name (i := 3) sc_law_take.nd rfl (Or.inl rfl))) (pss_cons (ps_if (pt_cmpR op_ge (pv 2) (pe_callB (call_len2 : CallR _ _ (rLn K)) (by rfl) T.z_len (by decide +kernel) (pa_cons (pv 3) pa_nil)) (nomark _)) (pss_one (ps_ret pe_int)) pss_nil) (pss_one (ps_ret (pe_op op_mod (pe_op op_fdiv (pe_callTy call_int2 (by rfl) T.z_int (by decide +kernel) (pa_cons (pe_ix (ix_seq : IxR _ (rIx K)) (pv 3) (pv 2) (fun _ _ => rfl)) pa_nil)) pe_int) (pv 1)))))))), ?_⟩
    walk_at "ss"
    refine o_ixL (lst_of h1) (atI_nat (j := 1) rfl) ?_
    walk_at "ss"
    refine st_L h1 (j := 1) rfl fun H2 c2 e2 => ?_
    have h3' := c2.at h3 nd
    walk_at "ss"
    refine o_ixL (lst_of e2) (atI_nat (j := 0) rfl) ?_
    walk_at "ss"
    refine b_lenL (lst_of h3') ?_
    walk_at "ss"
    refine ite2 (fun e => ?_) (fun e => ?_)
    · walk_at "ss"
      exact q 0 H2 (Int.le_refl 0) hm c2 ⟨n + 1, ds, e2, by omega, h3'⟩
    · have e := of_decide_eq_false (Bool.eq_false_iff.mpr e)
      rw [List.length_map] at e
      have g : (ds.map V.int)[n.toNat]? = some (.int ds[n.toNat]) := by
        rw [List.getElem?_map, List.getElem?_eq_getElem (by omega)]
        rfl
      walk_at "ss"
      refine o_ixL (lst_of h3') (atI_of (j := n.toNat) (by omega) g) ?_
      walk_at "ss"
      exact q _ H2 (Int.emod_nonneg _ (by omega)) (Int.emod_lt_of_pos _ hm) c2 ⟨n + 1, ds, e2, by omega, h3'⟩
def spDraws (K : PySem.W.Frag) : Sp := fun vs H Q _ => ∃ (a : Addr) (ns : List Int) (m : Int), vs = [.ref a, .int m] ∧ SqL K H a (ns.map V.int) ∧ ns.length ≤ 63 ∧ 0 ≤ m ∧ m ≤ 10000 ∧ ∀ p H' ds, Same H H' → H p = none → H' p = some (.lst ((ds : List Int).map V.int)) → Q (.ref p) H'
theorem k_law_draws (T : Tx K mg) : C8.Cal P w K mg base 1 "_law_draws" (spDraws K) [] := by
  refine cal_of (N := n_law_draws) T.d_law_draws sc_law_draws (fun _ _ F => F.bindsN fun _ _ _ _ _ _ us hl => match us, hl with | [_, _], _ => rfl) (fun vs H Q E h => ?_) (fun f cdv A outer s H vs Q E hr h => ?_)
  · obtain ⟨a, ns, m, rfl, _⟩ := h
    rfl
  · obtain ⟨a, ns, m, rfl, hS, hl, h0, hm, q⟩ := h
    refine ⟨_, (pss_cons (ps_setLc (i := 3) (own := [("cell", 2)]) (g := gName 2) (by rfl) sc_law_draws.nd rfl rfl (sw_true rfl rfl rfl (by decide +kernel)) (pi_list (pv 0) : PI _ _ _ (iList K _)) (blkOk_by (own := [("cell", 2)]) (N := n_law_draws) (sc := defScope s_law_draws) (by decide +kernel)) (fun _ _ _ _ _ => pg_name (i := 2) sc_law_draws.nd rfl (Or.inl rfl)) (fun _ _ _ _ _ => pts_nil) (fun _ _ _ _ _ => (pe_callB call_abs2 (by rfl) T.z_abs (by decide +kernel) (pa_cons (pe_callTy call_int2 (by rfl) T.z_int (by decide +kernel) (pa_cons (pv 2) pa_nil)) pa_nil)))) (pss_cons (ps_asg (pe_lst pa_nil) (pg_name (i := 4) sc_law_draws.nd rfl (Or.inl rfl))) (pss_cons (ps_for PassesOwn.never rfl (pi_range1 (by rfl) T.z_range (pa_cons (pv 1) pa_nil)) (pg_name (i := 5) sc_law_draws.nd rfl (Or.inl rfl)) (pss_cons (ps_asg (pv 5) (pg_name (i := 2) sc_law_draws.nd rfl (Or.inl rfl))) (C8.pss_cut (ps_if (pt_cmpR op_gt (pe_callB (call_len2 : CallR _ _ (rLn K)) (by rfl) T.z_len (by decide +kernel) (pa_cons (pv 0) pa_nil)) pe_int (nomark _)) (pss_cons (ps_asg (pe_op op_mod (pv 5) (pe_callB (call_len2 : CallR _ _ (rLn K)) (by rfl) T.z_len (by decide +kernel) (pa_cons (pv 0) pa_nil))) (pg_name (i := 6) sc_law_draws.nd rfl (Or.inl rfl))) (pss_cons (ps_asg (pe_callTy call_int2 (by rfl) T.z_int (by decide +kernel) (pa_cons (pe_ix (ix_seq : IxR _ (rIx K)) (pv 0) (pv 6) (fun _ _ => rfl)) pa_nil)) (pg_name (i := 2) sc_law_draws.nd rfl (Or.inl rfl))) (pss_one (ps_if (PW.pt (pw_and (pt_cmpR op_ge (pv 2) (pe_op op_pow pe_int pe_int) (nomark _)) (pw_and1 (pt_cmpR op_gt (pe_ix (ix_seq : IxR _ (rIx K)) (pv 3) (pv 6) (fun _ _ => rfl)) pe_int (nomark _))))) (pss_cons (ps_expr (pe_bm PySem.F.plainAttrs_list PySem.F.slot_list_append PySem.F.type_list_append mt_append (pv 4) (pa_cons (pe_op op_mod (pe_callTy call_int2 (by rfl) T.z_int (by decide +kernel) (pa_cons (pe_ix (ix_seq : IxR _ (rIx K)) (pv 3) (pv 6) (fun _ _ => rfl)) pa_nil)) pe_int) pa_nil) : PE _ _ (tBM K _ _ _ _))) (pss_cons (ps_asg (pe_op op_fdiv (pe_callTy call_int2 (by rfl) T.z_int (by decide +kernel) (pa_cons (pe_ix (ix_seq : IxR _ (rIx K)) (pv 3) (pv 6) (fun _ _ => rfl)) pa_nil)) pe_int) (pg_sub (pv 3) (pv 6) set_list)) (pss_one ps_continue))) pss_nil)))) pss_nil) (pss_cons (ps_asg (pe_op op_mod (pe_callTy call_int2 (by rfl) T.z_int (by decide +kernel) (pa_cons (pe_op op_add3 (pe_op op_add3 (pe_op op_mul2 (pv 2) pe_int) (pe_op op_mul2 (pv 5) pe_int)) pe_int) pa_nil)) pe_int) (pg_name (i := 7) sc_law_draws.nd rfl (Or.inl rfl))) (pss_cons (ps_asg (pe_op op_mod (pe_callTy call_int2 (by rfl) T.z_int (by decide +kernel) (pa_cons (pe_op op_add3 (pe_op op_fdiv (pe_op op_mul2 (pv 7) (pv 7)) pe_int) (pv 7)) pa_nil)) pe_int) (pg_name (i := 7) sc_law_draws.nd rfl (Or.inl rfl))) (pss_one (ps_expr (pe_bm PySem.F.plainAttrs_list PySem.F.slot_list_append PySem.F.type_list_append mt_append (pv 4) (pa_cons (pe_op op_mod (pe_callTy call_int2 (by rfl) T.z_int (by decide +kernel) (pa_cons (pe_op op_add3 (pe_op op_fdiv (pe_op op_mul2 (pv 7) (pv 7)) pe_int) (pe_op op_mul2 (pv 5) pe_int)) pa_nil)) pe_int) pa_nil) : PE _ _ (tBM K _ _ _ _))))))))) (pss_one (ps_ret (pv 4)))))), ?_⟩
    walk_at "ss"
    refine k_l hS ?_
    refine c_list (xs := ns.map V.int) (fun D i H1 => Same H H1 ∧ ∃ rs : List Int, rs.length = i ∧ H1 D = some (.lst (rs.map V.int))) (fun D H1 nD s1 e1 => ⟨s1, [], rfl, e1⟩) (fun D i H1 hi nD p => p.1.seq hS) (fun D i x H1 hx nD p => ?_) (fun D H1 nD p => ?_)
    · obtain ⟨s1, rs, lr, er⟩ := p
      have hi := (List.getElem?_eq_some_iff.mp hx).1
      rw [List.length_map] at hi
      obtain ⟨z, rfl⟩ : ∃ z, x = V.int z := by
        rw [List.getElem?_map] at hx
        cases e : ns[i]? with
        | none =>
          rw [e] at hx
          cases hx
        | some z =>
          rw [e] at hx
          exact ⟨z, (Option.some.inj hx).symm⟩
      walk_at "ss"
      refine ⟨rfl, ?_⟩
      walk_at "ss"
      refine iteT ?_
      walk_at "ss"
      exact c_out er (by rw [List.length_map, lr]; exact small1000 (by omega)) fun H2 c2 e2 => ⟨c2.same s1 nD, rs ++ [if z < 0 then -z else z], by simp [lr], by rw [List.map_append]; exact e2⟩
    · obtain ⟨s1, rs, lr, er⟩ := p
      rw [List.length_map] at lr
      walk_at "ss"
      refine n_obj (Nat.zero_le _) fun d H2 nd s2 e2 => ?_
      have nrd : D ≠ d := ne_of_none er nd
      have nd0 : H d = none := s1.free nd
      walk_at "ss"
      refine k_r1 (by omega) (by omega) ?_
      refine f_range (fun i σ H' => ∃ c k t x, ∃ ds rs : List Int, σ = [some (.ref a), some (.int m), c, some (.ref D), some (.ref d), k, t, x] ∧ Same H H' ∧ H' D = some (.lst (rs.map V.int)) ∧ rs.length = ns.length ∧ H' d = some (.lst (ds.map V.int)) ∧ ds.length ≤ i)
        ⟨_, _, _, _, [], rs, rfl, s1.trans s2, s2 _ _ er, lr, e2, Nat.le_refl _⟩ (fun i σ H3 hi p => ?_) (fun σ H3 p => ?_)
      · obtain ⟨c, k, t, x, ds, rs, rfl, s3, e3, l3, f3, g3⟩ := p
        have sz : (ds.map V.int).length < sizeLine := small1000' (by rw [List.length_map]; omega)
        walk_at "ss"
        refine s_cut (fun σ H' => ∃ (c : Int) (t x : Option V) (rs : List Int), σ = [some (.ref a), some (.int m), some (.int c), some (.ref D), some (.ref d), some (.int (0 + (i : Int))), t, x] ∧ Same H H' ∧ H' D = some (.lst (rs.map V.int)) ∧ rs.length = ns.length ∧ H' d = some (.lst (ds.map V.int))) ?_ (fun σ H4 p => ?_)
        · walk_at "ss"
          refine b_lenL (s3.seq hS) ?_
          walk_at "ss"
          refine ite2 (fun e => ?_) (fun e => ?_)
          · have e := of_decide_eq_true e
            rw [List.length_map] at e
            walk_at "ss"
            refine b_lenL (s3.seq hS) ?_
            rw [List.length_map]
            refine o_mod e ?_
            walk_at "ss"
            have b1 : 0 ≤ (0 + (i : Int)) % (ns.length : Int) := Int.emod_nonneg _ (by omega)
            have b2 : (0 + (i : Int)) % (ns.length : Int) < (ns.length : Int) := Int.emod_lt_of_pos _ e
            obtain ⟨j, hj⟩ : ∃ j : Nat, (0 + (i : Int)) % (ns.length : Int) = (j : Int) := ⟨_, (Int.toNat_of_nonneg b1).symm⟩
            rw [hj]
            have hj1 : j < ns.length := by omega
            have hj2 : j < rs.length := by omega
            have g1 : (ns.map V.int)[j]? = some (.int ns[j]) := by
              rw [List.getElem?_map, List.getElem?_eq_getElem hj1]
              rfl
            have g2 : (rs.map V.int)[j]? = some (.int rs[j]) := by
              rw [List.getElem?_map, List.getElem?_eq_getElem hj2]
              rfl
            refine o_ixL (s3.seq hS) (atI_nat g1) ?_
            walk_at "ss"
            refine ite2 (fun e => ?_) (fun e => ?_)
            · walk_at "ss"
              refine o_ixL (lst_of e3) (atI_nat g2) ?_
              walk_at "ss"
              refine ite2 (fun e => ?_) (fun e => ?_)
              · walk_at "ss"
                refine m_ty (lst_of f3) ?_
                walk_at "ss"
                refine o_ixL (lst_of e3) (atI_nat g2) ?_
                walk_at "ss"
                refine m_app f3 sz fun H4 c4 f4 => ?_
                have e4 := c4.at e3 nrd
                have s4 := c4.same s3 nd0
                walk_at "ss"
                refine o_ixL (lst_of e4) (atI_nat g2) ?_
                walk_at "ss"
                refine st_L e4 (j := j) (ixN_nat (by rw [List.length_map]; exact hj2)) fun H5 c5 e5 => ?_
                have f5 := c5.at f4 nrd.symm
                have s5 := c5.same s4 nD
                walk_at "ss"
                refine ⟨_, _, _, _, ds ++ [rs[j] % 1000003], rs.set j (rs[j] / 1000003), rfl, s5, ?_, by rw [List.length_set]; exact l3, ?_, by rw [List.length_append]; exact Nat.succ_le_succ g3⟩
                · rw [e5, List.map_set]
                · rw [f5, List.map_append]
                  rfl
              · walk_at "ss"
                exact ⟨_, _, _, rs, rfl, s3, e3, l3, f3⟩
            · walk_at "ss"
              refine iteF ?_
              walk_at "ss"
              exact ⟨_, _, _, rs, rfl, s3, e3, l3, f3⟩
          · walk_at "ss"
            exact ⟨_, _, _, rs, rfl, s3, e3, l3, f3⟩
        · obtain ⟨c, t, x, rs, rfl, s3, e3, l3, f3⟩ := p
          walk_at "ss"
          refine m_ty (lst_of f3) ?_
          walk_at "ss"
          refine m_app f3 sz fun H5 c5 f5 => ?_
          obtain ⟨ds', f6, l6⟩ := snoc_int f5
          exact ⟨_, _, _, _, ds', rs, rfl, c5.same s3 nd0, c5.at e3 nrd, l3, f6, by omega⟩
      · obtain ⟨c, k, t, x, ds, rs, rfl, s3, e3, l3, f3, g3⟩ := p
        walk_at "ss"
        exact q d H3 ds s3 nd0 f3
/-- an int below many, out of the hand -/
def spWide : Sp := fun vs H Q _ => ∃ (h d : Addr) (m : Int), vs = [.ref h, .int m] ∧ HandAt H h d ∧ 0 < m ∧ ∀ r H', 0 ≤ r → r < m → Keep h H H' → HandAt H' h d → Q (.int r) H'
theorem k_law_wide (T : Tx K mg) : C8.Cal P w K mg base 2 "_law_wide" spWide [] := by
  refine cal_of (N := n_law_wide) T.d_law_wide sc_law_wide (fun _ _ F => F.bindsN fun _ _ _ _ _ _ us hl => match us, hl with | [_, _], _ => rfl) (fun vs H Q E h => ?_) (fun f cdv A outer s H vs Q E hr h => ?_)
  · obtain ⟨a, d, m, rfl, _⟩ := h
    rfl
  · obtain ⟨a, d, m, rfl, hh, hm, q⟩ := h
    refine ⟨_, (pss_cons (ps_asg (C8.pe_c (k_law_take T) hr (by first | decide | omega) (by rfl) (pa_cons (pv 0) (pa_cons pe_int pa_nil))) (pg_name (i := 2) sc_law_wide.nd rfl (Or.inl rfl))) (pss_one (ps_ret (pe_op op_mod (pe_callTy call_int2 (by rfl) T.z_int (by decide +kernel) (pa_cons (pe_op op_add3 (pe_op op_mul2 (pv 2) pe_int) (C8.pe_c (k_law_take T) hr (by first | decide | omega) (by rfl) (pa_cons (pv 0) (pa_cons pe_int pa_nil)))) pa_nil)) (pv 1))))), ?_⟩
    walk_at "ss"
    refine ⟨a, d, _, rfl, hh, by omega, fun r H1 r0 r1 c1 hh1 => ?_⟩
    walk_at "ss"
    refine ⟨a, d, _, rfl, hh1, by omega, fun r2 H2 r3 r4 c2 hh2 => ?_⟩
    walk_at "ss"
    exact q _ H2 (Int.emod_nonneg _ (by omega)) (Int.emod_lt_of_pos _ hm) (c1.keep.trans c2.keep) hh2
end
end K09
namespace K09
open PySem PySem.Spec PyProof.Rows L2 Wy WD

-- REC value_of 2
-- DICTS variables found kept other
section
variable {P : Program} {w : World} {K : PySem.W.Frag} {mg : Str → Option Value} {base : Heap}
/-- the value of an expression -/
def spVal (n : Nat) : Sp := fun vs H Q _ => ∃ (v : V) (p : Addr) (ns : List Str) (is : List Int) (ls : List (List Int)) (e : X9), vs = [v, .ref p] ∧ Tp H v (e.d ns) ∧ EnvAt H p ns is ls ∧ e.good ∧ e.dep < n ∧ Q (oI (e.ev is ls)) H
theorem spVal_no (vs : List V) (H : Hp) (Q : VK) (E : XK) : ¬ spVal 0 vs H Q E := by
  rintro ⟨_, _, _, _, _, _, _, _, _, _, h, _⟩
  omega
theorem k_value_of (T : Tx K mg) : ∀ n : Nat, C8.Cal P w K mg base (n + 1) "value_of" (spVal n) []
  | 0 => cal_never (ps := ["expression", "variables"]) T.d_value_of (fun _ _ F => F.bindsN fun _ _ _ _ _ _ us hl => match us, hl with | [_, _], _ => rfl) spVal_no
  | n + 1 => by
    have ih := k_value_of T n
    refine cal_of (N := n_value_of) T.d_value_of sc_value_of (fun _ _ F => F.bindsN fun _ _ _ _ _ _ us hl => match us, hl with | [_, _], _ => rfl) (fun vs H Q E h => ?_) (fun f cdv A outer s H vs Q E hr h => ?_)
    · obtain ⟨v, p, ns, is, ls, e, rfl, _⟩ := h
      rfl
    · obtain ⟨v, p, ns, is, ls, e, rfl, te, env, hg, hd, q⟩ := h
      refine ⟨_, (pss_cons (ps_if (pt_cmpR (op_eq2 hr.units : OpR _ _ (rEq2 K)) (pe_ix (ix_seq : IxR _ (rIx K)) (pv 0) pe_int (fun _ _ => rfl)) pe_str (nomark _)) (pss_one (ps_ret (pe_ix (ix_seq : IxR _ (rIx K)) (pv 0) pe_int (fun _ _ => rfl)))) pss_nil) (pss_cons (ps_if (pt_cmpR (op_eq2 hr.units : OpR _ _ (rEq2 K)) (pe_ix (ix_seq : IxR _ (rIx K)) (pv 0) pe_int (fun _ _ => rfl)) pe_str (nomark _)) (pss_cons (ps_asg (pv 0) (pg_tup (by rfl) (pgs_cons (pg_name (i := 2) sc_value_of.nd rfl (Or.inl rfl)) (pgs_cons (pg_name (i := 3) sc_value_of.nd rfl (Or.inl rfl)) (pgs_cons (pg_name (i := 4) sc_value_of.nd rfl (Or.inl rfl)) pgs_nil))) : PG _ _ (gTup K _ _))) (pss_one (ps_ret (pe_op op_add3 (pe_dget (uu hr.units) (pv 1) (pv 3) (fun _ _ => rfl)) (pv 4))))) pss_nil) (pss_cons (ps_asg (pv 0) (pg_tup (by rfl) (pgs_cons (pg_name (i := 2) sc_value_of.nd rfl (Or.inl rfl)) (pgs_cons (pg_name (i := 3) sc_value_of.nd rfl (Or.inl rfl)) (pgs_cons (pg_name (i := 5) sc_value_of.nd rfl (Or.inl rfl)) (pgs_cons (pg_name (i := 4) sc_value_of.nd rfl (Or.inl rfl)) pgs_nil)))) : PG _ _ (gTup K _ _))) (pss_cons (ps_asg (pe_dget (uu hr.units) (pv 1) (pv 3) (fun _ _ => rfl)) (pg_name (i := 6) sc_value_of.nd rfl (Or.inl rfl))) (pss_cons (ps_asg (C8.pe_c ih hr (by first | decide | omega) (by rfl) (pa_cons (pv 5) (pa_cons (pv 1) pa_nil))) (pg_name (i := 7) sc_value_of.nd rfl (Or.inl rfl))) (pss_cons (ps_if (pt_not (pt_chain op_le op_lt pe_int (pv 7) (pe_callB (call_len2 : CallR _ _ (rLn K)) (by rfl) T.z_len (by decide +kernel) (pa_cons (pv 6) pa_nil)))) (pss_one (ps_ret pe_non)) pss_nil) (pss_one (ps_ret (pe_op op_add3 (pe_ix (ix_seq : IxR _ (rIx K)) (pv 6) (pv 7) (fun _ _ => rfl)) (pv 4)))))))))), ?_⟩
      cases e with
      | num m =>
        have te : Tp H v (.tuple [.str "num", .int m]) := te
        obtain ⟨a, v1, v2, rfl, ea, t1, t2⟩ := tp2 te
        cases t1
        cases t2
        walk_at "ss"
        refine o_ixT (tup_of ea) (atI_nat (j := 0) rfl) ?_
        walk_at "ss"
        refine o_eqS rfl ?_
        walk_at "ss"
        refine iteT ?_
        walk_at "ss"
        refine o_ixT (tup_of ea) (atI_nat (j := 1) rfl) ?_
        exact q
      | var k x =>
        have te : Tp H v (.tuple [.str "var", .str (nm ns k), .int x]) := te
        obtain ⟨a, v1, v2, v3, rfl, ea, t1, t2, t3⟩ := tp3 te
        cases t1
        cases t2
        cases t3
        obtain ⟨kvs, hk, hv⟩ := env.int (k := k) hg
        walk_at "ss"
        refine o_ixT (tup_of ea) (atI_nat (j := 0) rfl) ?_
        walk_at "ss"
        refine o_eqS rfl ?_
        walk_at "ss"
        refine iteF ?_
        walk_at "ss"
        refine o_ixT (tup_of ea) (atI_nat (j := 0) rfl) ?_
        walk_at "ss"
        refine o_eqS rfl ?_
        walk_at "ss"
        refine iteT ?_
        walk_at "ss"
        refine g_tup (tup_of ea) rfl ?_
        walk_at "ss"
        refine k_d hk hv ?_
        walk_at "ss"
        exact q
      | item j i x =>
        have te : Tp H v (.tuple [.str "item", .str (nm ns (4 + j)), i.d ns, .int x]) := te
        obtain ⟨a, v1, v2, v3, v4, rfl, ea, t1, t2, t3, t4⟩ := tp4 te
        cases t1
        cases t2
        cases t4
        obtain ⟨kvs, b, hk, hv, hb⟩ := env.lst hg.1
        obtain ⟨y, ey⟩ := hg.2.ev is ls
        have hz := hg.2.dep
        have e0 : (X9.item j i x).ev is ls = if 0 ≤ y ∧ y < (ls.getD j []).length then some ((ls.getD j []).getD y.toNat 0 + x) else none := by
          show (match i.ev is ls with | none => none | some a => _) = _
          rw [ey]
        rw [e0] at q
        walk_at "ss"
        refine o_ixT (tup_of ea) (atI_nat (j := 0) rfl) ?_
        walk_at "ss"
        refine o_eqS rfl ?_
        walk_at "ss"
        refine iteF ?_
        walk_at "ss"
        refine o_ixT (tup_of ea) (atI_nat (j := 0) rfl) ?_
        walk_at "ss"
        refine o_eqS rfl ?_
        walk_at "ss"
        refine iteF ?_
        walk_at "ss"
        refine g_tup (tup_of ea) rfl ?_
        walk_at "ss"
        refine k_d hk hv ?_
        walk_at "ss"
        refine ⟨v3, p, ns, is, ls, i, rfl, t3, env, hg.2.good, by have : 1 < n + 1 := hd; omega, ?_⟩
        rw [ey, show oI (some y) = V.int y from rfl]
        walk_at "ss"
        refine ite2 (fun e1 => ?_) (fun e1 => ?_)
        · have e1 := of_decide_eq_true e1
          walk_at "ss"
          refine b_lenL (lst_of hb) ?_
          walk_at "ss"
          rw [List.length_map]
          refine ite2 (fun e2 => ?_) (fun e2 => ?_)
          · walk_at "ss"
            rw [if_neg (fun e3 => by rw [decide_eq_true e3.2] at e2; cases e2)] at q
            exact q
          · have e2 : y < (ls.getD j []).length := by
              refine Decidable.byContradiction fun e3 => e2 ?_
              rw [decide_eq_false e3]
              rfl
            rw [if_pos ⟨e1, e2⟩] at q
            walk_at "ss"
            refine o_ixL (lst_of hb) (atI_of (j := y.toNat) (by omega) (v := .int ((ls.getD j []).getD y.toNat 0)) ?_) ?_
            · rw [List.getElem?_map, List.getD_eq_getElem?_getD (i := y.toNat), List.getElem?_eq_getElem (by omega)]
              rfl
            · walk_at "ss"
              exact q
        · walk_at "ss"
          refine iteT ?_
          walk_at "ss"
          rw [if_neg (fun e3 => e1 (decide_eq_true e3.1))] at q
          exact q
theorem dec_int (a b : Int) : decide (V.int a = V.int b) = decide (a = b) := by
  by_cases h : a = b
  · subst h
    rw [decide_eq_true rfl, decide_eq_true rfl]
  · rw [decide_eq_false h, decide_eq_false (fun e => h (V.int.inj e))]
/-- which comparison holds -/
def spHolds : Sp := fun vs H Q _ => ∃ (k : Nat) (a b : Int), vs = [.str (SG.getD k ""), .int a, .int b] ∧ k < 6 ∧ Q (.bl (cmpB k a b)) H
theorem k_holds (T : Tx K mg) : C8.Cal P w K mg base 1 "holds" spHolds [] := by
  refine cal_of (N := n_holds) T.d_holds sc_holds (fun _ _ F => F.bindsN fun _ _ _ _ _ _ us hl => match us, hl with | [_, _, _], _ => rfl) (fun vs H Q E h => ?_) (fun f cdv A outer s H vs Q E hr h => ?_)
  · obtain ⟨k, a, b, rfl, _⟩ := h
    rfl
  · obtain ⟨k, a, b, rfl, hk, q⟩ := h
    refine ⟨_, (pss_cons (ps_if (pt_cmpR (op_eq2 hr.units : OpR _ _ (rEq2 K)) (pv 0) pe_str (nomark _)) (pss_one (ps_ret (pe_cmpR op_lt (pv 1) (pv 2) (nomark _)))) pss_nil) (pss_cons (ps_if (pt_cmpR (op_eq2 hr.units : OpR _ _ (rEq2 K)) (pv 0) pe_str (nomark _)) (pss_one (ps_ret (pe_cmpR op_le (pv 1) (pv 2) (nomark _)))) pss_nil) (pss_cons (ps_if (pt_cmpR (op_eq2 hr.units : OpR _ _ (rEq2 K)) (pv 0) pe_str (nomark _)) (pss_one (ps_ret (pe_cmpR op_gt (pv 1) (pv 2) (nomark _)))) pss_nil) (pss_cons (ps_if (pt_cmpR (op_eq2 hr.units : OpR _ _ (rEq2 K)) (pv 0) pe_str (nomark _)) (pss_one (ps_ret (pe_cmpR op_ge (pv 1) (pv 2) (nomark _)))) pss_nil) (pss_cons (ps_if (pt_cmpR (op_eq2 hr.units : OpR _ _ (rEq2 K)) (pv 0) pe_str (nomark _)) (pss_one (ps_ret (pe_cmpR (op_eq2 hr.units : OpR _ _ (rEq2 K)) (pv 1) (pv 2) (nomark _)))) pss_nil) (pss_one (ps_ret (pe_cmpR (op_ne2 hr.units : OpR _ _ (rNe2 K)) (pv 1) (pv 2) (nomark _))))))))), ?_⟩
    have hk : k = 0 ∨ k = 1 ∨ k = 2 ∨ k = 3 ∨ k = 4 ∨ k = 5 := by omega
    rcases hk with rfl | rfl | rfl | rfl | rfl | rfl
    all_goals
      repeat first
        | (walk_at "ss"; exact q)
        | (walk_at "ss"; refine o_eqS rfl ?_; rw [dec_int]; exact q)
        | (walk_at "ss"; refine o_neS rfl ?_; rw [dec_int]; exact q)
        | (walk_at "ss"; refine o_eqS rfl ?_; walk_at "ss"; first | refine iteT ?_ | refine iteF ?_)
/-- the truth of a comparison -/
def spCmp : Sp := fun vs H Q _ => ∃ (v : V) (p : Addr) (ns : List Str) (is : List Int) (ls : List (List Int)) (k : Nat) (l r : X9), vs = [v, .ref p] ∧ Tp H v ((Cn.cmp k l r).d ns) ∧ EnvAt H p ns is ls ∧ k < 6 ∧ l.good ∧ r.good ∧ Q (oB (cmpO k (l.ev is ls) (r.ev is ls))) H
theorem cn_cmp {H : Hp} {v : V} {ns : List Str} {k : Nat} {l r : X9} (h : Tp H v ((Cn.cmp k l r).d ns)) : ∃ a u x, v = .ref a ∧ H a = some (.tup [.str "cmp", .str (SG.getD k ""), u, x]) ∧ Tp H u (l.d ns) ∧ Tp H x (r.d ns) := by
  have h : Tp H v (.tuple [.str "cmp", .str (SG.getD k ""), l.d ns, r.d ns]) := by
    rw [Cn.d] at h
    exact h
  obtain ⟨a, v1, v2, v3, v4, rfl, ea, t1, t2, t3, t4⟩ := tp4 h
  cases t1
  cases t2
  exact ⟨a, v3, v4, rfl, ea, t3, t4⟩
theorem k_comparison_truth (T : Tx K mg) : C8.Cal P w K mg base 4 "_comparison_truth" spCmp [] := by
  refine cal_of (N := n_comparison_truth) T.d_comparison_truth sc_comparison_truth (fun _ _ F => F.bindsN fun _ _ _ _ _ _ us hl => match us, hl with | [_, _], _ => rfl) (fun vs H Q E h => ?_) (fun f cdv A outer s H vs Q E hr h => ?_)
  · obtain ⟨v, p, ns, is, ls, k, l, r, rfl, _⟩ := h
    rfl
  · obtain ⟨v, p, ns, is, ls, k, l, r, rfl, te, env, hk, gl, gr, q⟩ := h
    obtain ⟨a, u, x, rfl, ea, tu, tx⟩ := cn_cmp te
    refine ⟨_, (pss_cons (ps_asg (pv 0) (pg_tup (by rfl) (pgs_cons (pg_name (i := 2) sc_comparison_truth.nd rfl (Or.inl rfl)) (pgs_cons (pg_name (i := 3) sc_comparison_truth.nd rfl (Or.inl rfl)) (pgs_cons (pg_name (i := 4) sc_comparison_truth.nd rfl (Or.inl rfl)) (pgs_cons (pg_name (i := 5) sc_comparison_truth.nd rfl (Or.inl rfl)) pgs_nil)))) : PG _ _ (gTup K _ _))) (pss_cons (ps_asg (C8.pe_c (k_value_of T 2) hr (by first | decide | omega) (by rfl) (pa_cons (pv 4) (pa_cons (pv 1) pa_nil))) (pg_name (i := 6) sc_comparison_truth.nd rfl (Or.inl rfl))) (pss_cons (ps_asg (C8.pe_c (k_value_of T 2) hr (by first | decide | omega) (by rfl) (pa_cons (pv 5) (pa_cons (pv 1) pa_nil))) (pg_name (i := 7) sc_comparison_truth.nd rfl (Or.inl rfl))) (pss_cons (ps_if (PW.pt (pw_or (pt_cmpR op_isN2 (pv 6) pe_non (nomark _)) (pw_or1 (pt_cmpR op_isN2 (pv 7) pe_non (nomark _))))) (pss_one (ps_ret pe_non)) pss_nil) (pss_one (ps_ret (C8.pe_c (k_holds T) hr (by first | decide | omega) (by rfl) (pa_cons (pv 3) (pa_cons (pv 6) (pa_cons (pv 7) pa_nil)))))))))), ?_⟩
    walk_at "ss"
    refine g_tup (tup_of ea) rfl ?_
    walk_at "ss"
    refine ⟨u, p, ns, is, ls, l, rfl, tu, env, gl, l.dep_le, ?_⟩
    walk_at "ss"
    refine ⟨x, p, ns, is, ls, r, rfl, tx, env, gr, r.dep_le, ?_⟩
    cases e1 : l.ev is ls with
    | none =>
      rw [e1] at q
      rw [show oI none = V.non from rfl]
      walk_at "ss"
      refine iteT ?_
      refine iteT ?_
      walk_at "ss"
      exact q
    | some i =>
      rw [e1] at q
      rw [show oI (some i) = V.int i from rfl]
      cases e2 : r.ev is ls with
      | none =>
        rw [e2] at q
        rw [show oI none = V.non from rfl]
        walk_at "ss"
        refine iteF ?_
        walk_at "ss"
        refine iteT ?_
        walk_at "ss"
        exact q
      | some j =>
        rw [e2] at q
        rw [show oI (some j) = V.int j from rfl]
        walk_at "ss"
        refine iteF ?_
        walk_at "ss"
        refine iteF ?_
        walk_at "ss"
        exact ⟨k, i, j, rfl, hk, q⟩
end
end K09
namespace K09
open PySem PySem.Spec PyProof.Rows L2 Wy WD

-- REC value_of 2
-- REC _law_value 2
-- JUD joined_truth joined_truth ih
-- DICTS variables found kept other
section
variable {P : Program} {w : World} {K : PySem.W.Frag} {mg : Str → Option Value} {base : Heap}
theorem ok_cmp {n k : Nat} {l r : X9} (h : (Cn.cmp k l r).ok n) : k < 6 ∧ l.good ∧ r.good := by
  cases n <;> (simp only [Cn.ok] at h; exact h)
theorem ok_no {n : Nat} {c : Cn} (h : (Cn.no c).ok n) : ∃ m, n = m + 1 ∧ c.ok m := by
  cases n with
  | zero =>
    simp only [Cn.ok] at h
  | succ m =>
    simp only [Cn.ok] at h
    exact ⟨m, rfl, h⟩
theorem ok_jn {n : Nat} {o : Bool} {cs : List Cn} (h : (Cn.jn o cs).ok n) : ∃ m, n = m + 1 ∧ Cn.oks m cs := by
  cases n with
  | zero =>
    simp only [Cn.ok] at h
  | succ m =>
    simp only [Cn.ok] at h
    exact ⟨m, rfl, h⟩
theorem cn_no {H : Hp} {v : V} {ns : List Str} {c : Cn} (h : Tp H v ((Cn.no c).d ns)) : ∃ a u, v = .ref a ∧ H a = some (.tup [.str "not", u]) ∧ Tp H u (c.d ns) := by
  have h : Tp H v (.tuple [.str "not", c.d ns]) := by
    rw [Cn.d] at h
    exact h
  obtain ⟨a, v1, v2, rfl, ea, t1, t2⟩ := tp2 h
  cases t1
  exact ⟨a, v2, rfl, ea, t2⟩
theorem cn_jn {H : Hp} {v : V} {ns : List Str} {o : Bool} {cs : List Cn} (h : Tp H v ((Cn.jn o cs).d ns)) : ∃ a b us, v = .ref a ∧ H a = some (.tup [.str (jw o), .ref b]) ∧ H b = some (.tup us) ∧ TpAll H us (Cn.ds ns cs) := by
  have h : Tp H v (.tuple [.str (jw o), .tuple (Cn.ds ns cs)]) := by
    rw [Cn.d] at h
    exact h
  obtain ⟨a, v1, v2, rfl, ea, t1, t2⟩ := tp2 h
  cases t1
  obtain ⟨b, us, rfl, eb, t3⟩ := tpL t2
  exact ⟨a, b, us, rfl, ea, eb, t3⟩
theorem jw_cmp (o : Bool) : decide (V.str (jw o) = V.str "cmp") = false := by cases o <;> rfl
theorem jw_not (o : Bool) : decide (V.str (jw o) = V.str "not") = false := by cases o <;> rfl
theorem jw_or (o : Bool) : decide (V.str (jw o) = V.str "or") = o := by cases o <;> rfl
theorem jw_and (o : Bool) : decide (V.str (jw o) = V.str "and") = !o := by cases o <;> rfl
theorem dec_bl (a b : Bool) : decide (V.bl a = V.bl b) = decide (a = b) := by cases a <;> cases b <;> rfl
/-- a part of a join, with its question -/
theorem part_at {H : Hp} {us : List V} {ns : List Str} {cs : List Cn} {i : Nat} {x : V} (t : TpAll H us (Cn.ds ns cs)) (hx : us[i]? = some x) : ∃ c, cs[i]? = some c ∧ Tp H x (c.d ns) := by
  have hl := t.length
  rw [Cn.ds_len] at hl
  have hi := (List.getElem?_eq_some_iff.mp hx).1
  have hc : cs[i]? = some cs[i] := List.getElem?_eq_getElem (by omega)
  obtain ⟨v, e, tv⟩ := t.get (Cn.ds_get (ns := ns) hc)
  rw [hx] at e
  cases e
  exact ⟨_, hc, tv⟩
/-- the truth of a condition, by what judges its comparisons -/
def spJT (J : WL.Jd) (m : Nat) : Sp := fun vs H Q _ => ∃ (v : V) (p : Addr) (ns : List Str) (is : List Int) (ls : List (List Int)) (c : Cn) (n : Nat), vs = [v, .ref J.f] ∧ J.pv = .ref p ∧ Tp H v (c.d ns) ∧ EnvAt H p ns is ls ∧ n < m ∧ c.ok n ∧ WL.HasC J H ∧ Q (oB (c.ev is ls)) H
theorem spJT_no (J : WL.Jd) (vs : List V) (H : Hp) (Q : VK) (E : XK) : ¬ spJT J 0 vs H Q E := by
  rintro ⟨_, _, _, _, _, _, _, _, _, _, _, h, _⟩
  omega
def lamOf : List Stmt → Expr
  | [.Return (some (.Call _ [_, e] _ _)) _] => e
  | _ => .Constant .none 0 ⟨0, 0, 0, 0⟩
def lamArgs : Expr → Arguments
  | .Lambda a _ _ _ => a
  | _ => default
def lamBody : Expr → Expr
  | .Lambda _ b _ _ => b
  | e => e
def lamScope : Expr → Scope
  | .Lambda _ _ s _ => s
  | _ => default
abbrev LAM : Expr := lamOf (defBody s_truth_of)
theorem k_joined_truth (T : Tx K mg) (J : WL.Jd) (ok : J.Ok) (st : ∃ pv, WL.Stat J lq_truth_of (lamArgs LAM) (lamBody LAM) (lamScope LAM) "comparison" "variables" pv) : ∀ m : Nat, WL.CalJ P w K mg base J (m + 6) "joined_truth" (spJT J m)
  | 0 => WL.cal_neverJ (ps := ["condition", "judge"]) T.d_joined_truth (fun _ _ F => F.bindsN fun _ _ _ _ _ _ us hl => match us, hl with | [_, _], _ => rfl) (spJT_no J)
  | m + 1 => by
    have ih := k_joined_truth T J ok st m
    refine WL.cal_ofJ (N := n_joined_truth) T.d_joined_truth sc_joined_truth (fun _ _ F => F.bindsN fun _ _ _ _ _ _ us hl => match us, hl with | [_, _], _ => rfl) (fun vs H Q E h => ?_) (fun f cdv A outer s H vs Q E hr th h => ?_)
    · obtain ⟨v, p, ns, is, ls, c, n, rfl, _⟩ := h
      rfl
    · have hbody : ∀ (A : Around) (outer : List Env) (s : Shared) (H : Hp), Room 4 (A.deeper (J.env s.heap.objs.size)) → PE (WL.lamC J P w K mg base A outer s H) J.body (tCall spCmp [] C8.E0 (tCons (tVar 0) (tCons (tVar 1) tNil))) := fun A outer s H hr => by
        obtain ⟨pv, s1, s2, s3, s4, s5, s6, _⟩ := st
        obtain ⟨f0, c0, q0, params0, body0, scope0, cl0, pm0, ctv0, x0, z0, cz0, pv0⟩ := J
        obtain rfl : q0 = _ := s1
        obtain rfl : params0 = _ := s2
        obtain rfl : body0 = _ := s3
        obtain rfl : scope0 = _ := s4
        obtain rfl : x0 = _ := s5
        obtain rfl : z0 = _ := s6
        exact C8.pe_c (k_comparison_truth T) hr (by omega) (by rfl) (pa_cons (pe_var (i := 0) (x := "comparison") rfl (Or.inl rfl)) (pa_cons (pe_var (i := 1) (x := "variables") rfl (Or.inr (Or.inr rfl))) pa_nil))
      obtain ⟨v, p, ns, is, ls, c, n, rfl, hpv, te, env, hn, hg, hc, q⟩ := h
      refine ⟨_, (pss_cons (ps_if (pt_cmpR (op_eq2 hr.units : OpR _ _ (rEq2 K)) (pe_ix (ix_seq : IxR _ (rIx K)) (pv 0) pe_int (fun _ _ => rfl)) pe_str (nomark _)) (pss_one (ps_ret (WL.pe_judge th ok hr (by first | decide | omega) hbody (i := 1) rfl (Or.inl rfl) (pa_cons (pv 0) pa_nil)))) pss_nil) (pss_cons (ps_if (pt_cmpR (op_eq2 hr.units : OpR _ _ (rEq2 K)) (pe_ix (ix_seq : IxR _ (rIx K)) (pv 0) pe_int (fun _ _ => rfl)) pe_str (nomark _)) (pss_cons (ps_asg (WL.pe_cJ ih th hr (by first | decide | omega) (by rfl) (pa_cons (pe_ix (ix_seq : IxR _ (rIx K)) (pv 0) pe_int (fun _ _ => rfl)) (pa_cons (pv 1) pa_nil))) (pg_name (i := 2) sc_joined_truth.nd rfl (Or.inl rfl))) (pss_one (ps_ret (pe_ifExp (pt_cmpR op_isN2 (pv 2) pe_non (nomark _)) pe_non (pe_not (pv 2)))))) pss_nil) (pss_cons (ps_asg (pe_cmpR (op_eq2 hr.units : OpR _ _ (rEq2 K)) (pe_ix (ix_seq : IxR _ (rIx K)) (pv 0) pe_int (fun _ _ => rfl)) pe_str (nomark _)) (pg_name (i := 3) sc_joined_truth.nd rfl (Or.inl rfl))) (pss_cons (ps_for PassesOwn.never rfl (pi_tup (pe_ix (ix_seq : IxR _ (rIx K)) (pv 0) pe_int (fun _ _ => rfl)) : PI _ _ _ (iTup K _)) (pg_name (i := 4) sc_joined_truth.nd rfl (Or.inl rfl)) (pss_cons (ps_asg (WL.pe_cJ ih th hr (by first | decide | omega) (by rfl) (pa_cons (pv 4) (pa_cons (pv 1) pa_nil))) (pg_name (i := 2) sc_joined_truth.nd rfl (Or.inl rfl))) (pss_one (ps_if (PW.pt (pw_or (pt_cmpR op_isN2 (pv 2) pe_non (nomark _)) (pw_or1 (pt_cmpR (op_eq2 hr.units : OpR _ _ (rEq2 K)) (pv 2) (pv 3) (nomark _))))) (pss_one (ps_ret (pv 2))) pss_nil)))) (pss_one (ps_ret (pe_not (pv 3)))))))), ?_⟩
      cases c with
      | cmp k l r =>
        obtain ⟨hk, gl, gr⟩ := ok_cmp hg
        rw [Cn.ev] at q
        obtain ⟨a, u, x, rfl, ea, tu, tx⟩ := cn_cmp te
        walk_at "ss"
        refine o_ixT (tup_of ea) (atI_nat (j := 0) rfl) ?_
        walk_at "ss"
        refine o_eqS rfl ?_
        walk_at "ss"
        refine iteT ?_
        refine ⟨rfl, ?_⟩
        walk_at "ss"
        refine ⟨_, rfl, hc, ?_⟩
        walk_at "ss"
        rw [hpv]
        exact ⟨_, p, ns, is, ls, k, l, r, rfl, te, env, hk, gl, gr, q⟩
      | no c =>
        obtain ⟨n, rfl, gc⟩ := ok_no hg
        rw [Cn.ev] at q
        obtain ⟨a, u, rfl, ea, tu⟩ := cn_no te
        walk_at "ss"
        refine o_ixT (tup_of ea) (atI_nat (j := 0) rfl) ?_
        walk_at "ss"
        refine o_eqS rfl ?_
        walk_at "ss"
        refine iteF ?_
        walk_at "ss"
        refine o_ixT (tup_of ea) (atI_nat (j := 0) rfl) ?_
        walk_at "ss"
        refine o_eqS rfl ?_
        walk_at "ss"
        refine iteT ?_
        walk_at "ss"
        refine WL.e_cJ ?_
        walk_at "ss"
        refine o_ixT (tup_of ea) (atI_nat (j := 1) rfl) ?_
        walk_at "ss"
        refine ⟨hc, u, p, ns, is, ls, c, n, rfl, hpv, tu, env, by omega, gc, hc, ?_⟩
        cases e : c.ev is ls with
        | none =>
          rw [e] at q
          rw [show oB none = V.non from rfl]
          walk_at "ss"
          refine iteT ?_
          walk_at "ss"
          exact q
        | some b =>
          rw [e] at q
          rw [show oB (some b) = V.bl b from rfl]
          walk_at "ss"
          refine iteF ?_
          walk_at "ss"
          exact q
      | jn o cs =>
        obtain ⟨n, rfl, gc⟩ := ok_jn hg
        rw [Cn.ev] at q
        obtain ⟨a, b, us, rfl, ea, eb, tu⟩ := cn_jn te
        walk_at "ss"
        refine o_ixT (tup_of ea) (atI_nat (j := 0) rfl) ?_
        walk_at "ss"
        refine o_eqS rfl ?_
        rw [jw_cmp]
        walk_at "ss"
        refine iteF ?_
        walk_at "ss"
        refine o_ixT (tup_of ea) (atI_nat (j := 0) rfl) ?_
        walk_at "ss"
        refine o_eqS rfl ?_
        rw [jw_not]
        walk_at "ss"
        refine iteF ?_
        walk_at "ss"
        refine o_ixT (tup_of ea) (atI_nat (j := 0) rfl) ?_
        walk_at "ss"
        refine o_eqS rfl ?_
        rw [jw_or]
        walk_at "ss"
        refine o_ixT (tup_of ea) (atI_nat (j := 1) rfl) ?_
        refine k_t (tup_of eb) ?_
        refine f_tup (xs := us) (fun i σ H' => ∃ y z, σ = [some (.ref a), some (.ref J.f), y, some (.bl o), z] ∧ H' = H ∧ Cn.evs is ls o (cs.drop i) = Cn.evs is ls o cs) ⟨_, _, rfl, rfl, rfl⟩
          (fun i σ H' hi p => p.choose_spec.choose_spec.2.1 ▸ tup_of eb) (fun i x σ H' hx p => ?_) (fun σ H' p => ?_)
        · obtain ⟨y, z, rfl, rfl, hv⟩ := p
          obtain ⟨c, hcc, tc⟩ := part_at tu hx
          rw [Cn.evs_drop hcc] at hv
          walk_at "ss"
          refine WL.e_cJ ?_
          walk_at "ss"
          refine ⟨hc, x, p, ns, is, ls, c, n, rfl, hpv, tc, env, by omega, Cn.oks_get gc hcc, hc, ?_⟩
          cases e : c.ev is ls with
          | none =>
            rw [e] at hv
            rw [show oB none = V.non from rfl]
            walk_at "ss"
            refine iteT ?_
            refine iteT ?_
            walk_at "ss"
            rw [← hv] at q
            exact q
          | some d =>
            rw [e] at hv
            rw [show oB (some d) = V.bl d from rfl]
            walk_at "ss"
            refine iteF ?_
            walk_at "ss"
            refine o_eqS rfl ?_
            rw [dec_bl]
            walk_at "ss"
            refine ite2 (fun e1 => ?_) (fun e1 => ?_)
            · have e1 := of_decide_eq_true e1
              walk_at "ss"
              have hv : (if d = o then some d else Cn.evs is ls o (cs.drop (i + 1)) : Option Bool) = Cn.evs is ls o cs := hv
              rw [← hv, if_pos e1] at q
              exact q
            · have e1 : ¬ d = o := fun h => e1 (decide_eq_true h)
              walk_at "ss"
              have hv : (if d = o then some d else Cn.evs is ls o (cs.drop (i + 1)) : Option Bool) = Cn.evs is ls o cs := hv
              rw [if_neg e1] at hv
              exact ⟨_, _, rfl, rfl, hv⟩
        · obtain ⟨y, z, rfl, rfl, hv⟩ := p
          have hl := tu.length
          rw [Cn.ds_len] at hl
          rw [hl, List.drop_length] at hv
          walk_at "ss"
          rw [← hv] at q
          exact q
/-- the truth of a condition -/
def spTr (K : PySem.W.Frag) (m : Nat) : Sp := fun vs H Q _ => ∃ (v : V) (p : Addr) (ns : List Str) (is : List Int) (ls : List (List Int)) (c : Cn) (n : Nat), vs = [v, .ref p] ∧ Tp H v (c.d ns) ∧ EnvAt H p ns is ls ∧ n < m ∧ c.ok n ∧ LamX.Tabs (lT K) H ∧
  ∀ H', LamX.ExtN H H' → LamX.Tabs (lT K) H' → Q (oB (c.ev is ls)) H'
theorem EnvAt.ext {H H' : Hp} {p : Addr} {ns : List Str} {is : List Int} {ls : List (List Int)} (s : LamX.ExtN H H') (e : EnvAt H p ns is ls) : EnvAt H' p ns is ls := by
  obtain ⟨h1, h2, h3, h4, vs, h5, h6, h7⟩ := e
  refine ⟨h1, h2, h3, h4, vs, h5, s _ _ h6 (by intro ps z; cases z), fun j v g => ?_⟩
  rcases h7 j v g with c | ⟨a, xs, c1, c2, c3, c4⟩
  · exact .inl c
  · exact .inr ⟨a, xs, c1, c2, c3, s _ _ c4 (by intro ps z; cases z)⟩
theorem k_truth_of (T : Tx K mg) (TB : LamX.TabB base mg (lc_truth_of K).1 (lc_truth_of K).2) (m : Nat) : C8.Cal P w K mg base (m + 7) "truth_of" (spTr K m) [] := by
  refine WL.cal_ofL (N := n_truth_of) T.d_truth_of T.w_truth_of sc_truth_of (fun _ _ F => F.bindsN fun _ _ _ _ _ _ us hl => match us, hl with | [_, _], _ => rfl) (fun vs H Q E h => ?_) (fun f cdv A outer s H vs Q E hcdv hr h => ?_)
  · obtain ⟨v, p, ns, is, ls, c, n, rfl, _⟩ := h
    rfl
  · obtain ⟨v, p, ns, is, ls, c, n, rfl, te, env, hn, hg, hT, q⟩ := h
    subst hcdv
    have cj : ∀ J : WL.Jd, J.Ok → (∃ pv, WL.Stat J lq_truth_of (lamArgs LAM) (lamBody LAM) (lamScope LAM) "comparison" "variables" pv) → WL.CalJ P w K mg base J (m + 6) "joined_truth" (spJT J m) := fun J ok st => k_joined_truth T J ok st m
    have hcode : (cxOf C8.CX0 P w K mg base n_truth_of "truth_of" (defScope s_truth_of) f (.ref (lc_truth_of K).1) A outer s H E).nox.env.code = .ref (lc_truth_of K).1 := rfl
    have hmT : ((lc_truth_of K).2, lq_truth_of) ∈ lT K := List.mem_singleton.mpr rfl
    have hu : ∀ p ∈ lT K, p.1 = (lc_truth_of K).2 → p.2 = lq_truth_of := fun p hp _ => by
      rw [List.mem_singleton.mp hp]
    have hL : WL.lamB (defScope s_truth_of) (lamScope LAM) "comparison" "variables" = true := by decide +kernel
    refine ⟨_, (pss_one (ps_ret (WL.pe_mkJ T.d_joined_truth cj hr (by first | decide | omega) (by rfl) (pv 0) TB hcode hmT hu (by rfl) hL (iz := 1) rfl (fun _ _ _ _ _ _ => rfl)))), ?_⟩
    walk_at "ss"
    refine WL.e_mkJ ?_
    walk_at "ss"
    refine ⟨hT, .ref p, rfl, fun J H2 eN T2 ok hc st => ?_⟩
    exact ⟨v, p, ns, is, ls, c, n, rfl, st.pv, te.tk (WL.ExtN.tk eN), EnvAt.ext eN env, hn, hg, hc, q H2 eN T2⟩
end
end K09
namespace K09
open PySem PySem.Spec PyProof.Rows L2 Wy WD

-- REC value_of 2
-- REC _law_value 2
-- DICTS variables found kept other
section
variable {P : Program} {w : World} {K : PySem.W.Frag} {mg : Str → Option Value} {base : Heap}
/-! ### the law's own answers -/
theorem k_law_value (T : Tx K mg) : ∀ n : Nat, C8.Cal P w K mg base (n + 1) "_law_value" (spVal n) []
  | 0 => cal_never (ps := ["expression", "variables"]) T.d_law_value (fun _ _ F => F.bindsN fun _ _ _ _ _ _ us hl => match us, hl with | [_, _], _ => rfl) spVal_no
  | n + 1 => by
    have ih := k_law_value T n
    refine cal_of (N := n_law_value) T.d_law_value sc_law_value (fun _ _ F => F.bindsN fun _ _ _ _ _ _ us hl => match us, hl with | [_, _], _ => rfl) (fun vs H Q E h => ?_) (fun f cdv A outer s H vs Q E hr h => ?_)
    · obtain ⟨v, p, ns, is, ls, e, rfl, _⟩ := h
      rfl
    · obtain ⟨v, p, ns, is, ls, e, rfl, te, env, hg, hd, q⟩ := h
      refine ⟨_, (pss_cons (ps_if (pt_cmpR (op_eq2 hr.units : OpR _ _ (rEq2 K)) (pe_ix (ix_seq : IxR _ (rIx K)) (pv 0) pe_int (fun _ _ => rfl)) pe_str (nomark _)) (pss_one (ps_ret (pe_ix (ix_seq : IxR _ (rIx K)) (pv 0) pe_int (fun _ _ => rfl)))) pss_nil) (pss_cons (ps_if (pt_cmpR (op_eq2 hr.units : OpR _ _ (rEq2 K)) (pe_ix (ix_seq : IxR _ (rIx K)) (pv 0) pe_int (fun _ _ => rfl)) pe_str (nomark _)) (pss_one (ps_ret (pe_op op_add3 (pe_dget (uu hr.units) (pv 1) (pe_ix (ix_seq : IxR _ (rIx K)) (pv 0) pe_int (fun _ _ => rfl)) (fun _ _ => rfl)) (pe_ix (ix_seq : IxR _ (rIx K)) (pv 0) pe_int (fun _ _ => rfl))))) pss_nil) (pss_cons (ps_asg (pe_dget (uu hr.units) (pv 1) (pe_ix (ix_seq : IxR _ (rIx K)) (pv 0) pe_int (fun _ _ => rfl)) (fun _ _ => rfl)) (pg_name (i := 2) sc_law_value.nd rfl (Or.inl rfl))) (pss_cons (ps_asg (C8.pe_c ih hr (by first | decide | omega) (by rfl) (pa_cons (pe_ix (ix_seq : IxR _ (rIx K)) (pv 0) pe_int (fun _ _ => rfl)) (pa_cons (pv 1) pa_nil))) (pg_name (i := 3) sc_law_value.nd rfl (Or.inl rfl))) (pss_cons (ps_if (PW.pt (pw_or (pt_cmpR op_lt (pv 3) pe_int (nomark _)) (pw_or1 (pt_cmpR op_ge (pv 3) (pe_callB (call_len2 : CallR _ _ (rLn K)) (by rfl) T.z_len (by decide +kernel) (pa_cons (pv 2) pa_nil)) (nomark _))))) (pss_one (ps_ret pe_non)) pss_nil) (pss_one (ps_ret (pe_op op_add3 (pe_ix (ix_seq : IxR _ (rIx K)) (pv 2) (pv 3) (fun _ _ => rfl)) (pe_ix (ix_seq : IxR _ (rIx K)) (pv 0) pe_int (fun _ _ => rfl)))))))))), ?_⟩
      cases e with
      | num m =>
        have te : Tp H v (.tuple [.str "num", .int m]) := te
        obtain ⟨a, v1, v2, rfl, ea, t1, t2⟩ := tp2 te
        cases t1
        cases t2
        walk_at "ss"
        refine o_ixT (tup_of ea) (atI_nat (j := 0) rfl) ?_
        walk_at "ss"
        refine o_eqS rfl ?_
        walk_at "ss"
        refine iteT ?_
        walk_at "ss"
        refine o_ixT (tup_of ea) (atI_nat (j := 1) rfl) ?_
        exact q
      | var k x =>
        have te : Tp H v (.tuple [.str "var", .str (nm ns k), .int x]) := te
        obtain ⟨a, v1, v2, v3, rfl, ea, t1, t2, t3⟩ := tp3 te
        cases t1
        cases t2
        cases t3
        obtain ⟨kvs, hk, hv⟩ := env.int (k := k) hg
        walk_at "ss"
        refine o_ixT (tup_of ea) (atI_nat (j := 0) rfl) ?_
        walk_at "ss"
        refine o_eqS rfl ?_
        walk_at "ss"
        refine iteF ?_
        walk_at "ss"
        refine o_ixT (tup_of ea) (atI_nat (j := 0) rfl) ?_
        walk_at "ss"
        refine o_eqS rfl ?_
        walk_at "ss"
        refine iteT ?_
        walk_at "ss"
        refine o_ixT (tup_of ea) (atI_nat (j := 1) rfl) ?_
        refine k_d hk hv ?_
        walk_at "ss"
        refine o_ixT (tup_of ea) (atI_nat (j := 2) rfl) ?_
        walk_at "ss"
        exact q
      | item j i x =>
        have te : Tp H v (.tuple [.str "item", .str (nm ns (4 + j)), i.d ns, .int x]) := te
        obtain ⟨a, v1, v2, v3, v4, rfl, ea, t1, t2, t3, t4⟩ := tp4 te
        cases t1
        cases t2
        cases t4
        obtain ⟨kvs, b, hk, hv, hb⟩ := env.lst hg.1
        obtain ⟨y, ey⟩ := hg.2.ev is ls
        have hz := hg.2.dep
        have e0 : (X9.item j i x).ev is ls = if 0 ≤ y ∧ y < (ls.getD j []).length then some ((ls.getD j []).getD y.toNat 0 + x) else none := by
          show (match i.ev is ls with | none => none | some a => _) = _
          rw [ey]
        rw [e0] at q
        walk_at "ss"
        refine o_ixT (tup_of ea) (atI_nat (j := 0) rfl) ?_
        walk_at "ss"
        refine o_eqS rfl ?_
        walk_at "ss"
        refine iteF ?_
        walk_at "ss"
        refine o_ixT (tup_of ea) (atI_nat (j := 0) rfl) ?_
        walk_at "ss"
        refine o_eqS rfl ?_
        walk_at "ss"
        refine iteF ?_
        walk_at "ss"
        refine o_ixT (tup_of ea) (atI_nat (j := 1) rfl) ?_
        refine k_d hk hv ?_
        walk_at "ss"
        refine o_ixT (tup_of ea) (atI_nat (j := 2) rfl) ?_
        walk_at "ss"
        refine ⟨v3, p, ns, is, ls, i, rfl, t3, env, hg.2.good, by have : 1 < n + 1 := hd; omega, ?_⟩
        rw [ey, show oI (some y) = V.int y from rfl]
        walk_at "ss"
        refine ite2 (fun e1 => ?_) (fun e1 => ?_)
        · have e1 := of_decide_eq_true e1
          refine iteT ?_
          walk_at "ss"
          rw [if_neg (fun e3 => by omega)] at q
          exact q
        · have e1 : ¬ y < 0 := fun h => e1 (decide_eq_true h)
          walk_at "ss"
          refine b_lenL (lst_of hb) ?_
          walk_at "ss"
          rw [List.length_map]
          refine ite2 (fun e2 => ?_) (fun e2 => ?_)
          · have e2 := of_decide_eq_true e2
            walk_at "ss"
            rw [if_neg (fun e3 => by omega)] at q
            exact q
          · have e2 : y < (ls.getD j []).length := by
              refine Decidable.byContradiction fun e3 => e2 (decide_eq_true ?_)
              omega
            rw [if_pos ⟨by omega, e2⟩] at q
            walk_at "ss"
            refine o_ixL (lst_of hb) (atI_of (j := y.toNat) (by omega) (v := .int ((ls.getD j []).getD y.toNat 0)) ?_) ?_
            · rw [List.getElem?_map, List.getD_eq_getElem?_getD (i := y.toNat), List.getElem?_eq_getElem (by omega)]
              rfl
            · walk_at "ss"
              refine o_ixT (tup_of ea) (atI_nat (j := 3) rfl) ?_
              walk_at "ss"
              exact q
def spCompared : Sp := fun vs H Q _ => ∃ (k : Nat) (a b : Int), vs = [.str (SG.getD k ""), .int a, .int b] ∧ k < 6 ∧ ∀ H', Same H H' → Q (.bl (cmpB k a b)) H'
abbrev SGV : List V := SG.map V.str
theorem sg_flat : SGV.all flatV = true := by decide +kernel
theorem sg_eq : ∀ k, k < 6 → ∀ m, m < 6 → eqV (.str (SG.getD m "")) (.str (SG.getD k "")) = decide (m = k) := by decide +kernel
theorem k_law_compared (T : Tx K mg) : C8.Cal P w K mg base 1 "_law_compared" spCompared [] := by
  refine cal_of (N := n_law_compared) T.d_law_compared sc_law_compared (fun _ _ F => F.bindsN fun _ _ _ _ _ _ us hl => match us, hl with | [_, _, _], _ => rfl) (fun vs H Q E h => ?_) (fun f cdv A outer s H vs Q E hr h => ?_)
  · obtain ⟨k, a, b, rfl, _⟩ := h
    rfl
  · obtain ⟨k, a, b, rfl, hk, q⟩ := h
    refine ⟨_, (pss_cons (ps_asg (pe_lst (pa_cons (pe_cmpR op_lt (pv 1) (pv 2) (nomark _)) (pa_cons (pe_cmpR op_le (pv 1) (pv 2) (nomark _)) (pa_cons (pe_cmpR op_gt (pv 1) (pv 2) (nomark _)) (pa_cons (pe_cmpR op_ge (pv 1) (pv 2) (nomark _)) (pa_cons (pe_cmpR (op_eq2 hr.units : OpR _ _ (rEq2 K)) (pv 1) (pv 2) (nomark _)) (pa_cons (pe_cmpR (op_ne2 hr.units : OpR _ _ (rNe2 K)) (pv 1) (pv 2) (nomark _)) pa_nil))))))) (pg_name (i := 3) sc_law_compared.nd rfl (Or.inl rfl))) (pss_one (ps_ret (pe_ix (ix_seq : IxR _ (rIx K)) (pv 3) (pe_bm PySem.F.plainAttrs_list PySem.F.slot_list_index PySem.F.type_list_index mt_index (pe_lst (pa_cons pe_str (pa_cons pe_str (pa_cons pe_str (pa_cons pe_str (pa_cons pe_str (pa_cons pe_str pa_nil))))))) (pa_cons (pv 0) pa_nil) : PE _ _ (tBM K _ _ _ _)) (fun _ _ => rfl))))), ?_⟩
    walk_at "ss"
    refine o_eqS rfl ?_
    rw [dec_int]
    walk_at "ss"
    refine o_neS rfl ?_
    rw [dec_int]
    walk_at "ss"
    refine n_obj (lz (by simp)) fun p1 H1 n1 s1 e1 => ?_
    walk_at "ss"
    refine n_obj (lz (by simp)) fun p2 H2 n2 s2 e2 => ?_
    walk_at "ss"
    refine m_ty (lst_of e2) ?_
    walk_at "ss"
    refine m_idx (ys := SGV) (j := k) (z := .str (SG.getD k "")) (lst_of e2) rfl sg_flat (by rw [List.getElem?_map, List.getD_eq_getElem?_getD, List.getElem?_eq_getElem (by exact hk)]; rfl) (by rw [sg_eq k hk k hk]; exact decide_eq_true rfl) (fun m z' hm hz => ?_) ?_
    · rw [List.getElem?_map, List.getElem?_eq_getElem (by show m < 6; omega)] at hz
      cases hz
      have := sg_eq k hk m (by omega)
      rw [List.getD_eq_getElem?_getD (i := m), List.getElem?_eq_getElem (by show m < 6; omega)] at this
      exact this.trans (decide_eq_false (by omega))
    · refine o_ixL (lst_of (s2 _ _ e1)) (atI_nat (j := k) (v := .bl (cmpB k a b)) ?_) ?_
      · have hk : k = 0 ∨ k = 1 ∨ k = 2 ∨ k = 3 ∨ k = 4 ∨ k = 5 := by omega
        rcases hk with rfl | rfl | rfl | rfl | rfl | rfl <;> rfl
      · exact q _ (s1.trans s2)
end
end K09
namespace K09
open PySem PySem.Spec PyProof.Rows L2 Wy WD

-- REC value_of 2
-- REC _law_value 2
-- DICTS variables found kept other
section
variable {P : Program} {w : World} {K : PySem.W.Frag} {mg : Str → Option Value} {base : Heap}
def spTrL (m : Nat) : Sp := fun vs H Q _ => ∃ (v : V) (p : Addr) (ns : List Str) (is : List Int) (ls : List (List Int)) (c : Cn) (n : Nat), vs = [v, .ref p] ∧ Tp H v (c.d ns) ∧ EnvAt H p ns is ls ∧ n < m ∧ c.ok n ∧ ∀ H', Same H H' → Q (oB (c.ev is ls)) H'
theorem spTrL_no (vs : List V) (H : Hp) (Q : VK) (E : XK) : ¬ spTrL 0 vs H Q E := by
  rintro ⟨_, _, _, _, _, _, _, _, _, _, h, _⟩
  omega
theorem TpAll.same {H H' : Hp} {us : List V} {ds : List PyData} (s : Same H H') (t : TpAll H us ds) : TpAll H' us ds := Wy.TpAll.tk s.tk t
theorem k_law_truth (T : Tx K mg) : ∀ m : Nat, C8.Cal P w K mg base (m + 4) "_law_truth" (spTrL m) []
  | 0 => cal_never (ps := ["condition", "variables"]) T.d_law_truth (fun _ _ F => F.bindsN fun _ _ _ _ _ _ us hl => match us, hl with | [_, _], _ => rfl) spTrL_no
  | m + 1 => by
    have ih := k_law_truth T m
    refine cal_of (N := n_law_truth) T.d_law_truth sc_law_truth (fun _ _ F => F.bindsN fun _ _ _ _ _ _ us hl => match us, hl with | [_, _], _ => rfl) (fun vs H Q E h => ?_) (fun f cdv A outer s H vs Q E hr h => ?_)
    · obtain ⟨v, p, ns, is, ls, c, n, rfl, _⟩ := h
      rfl
    · obtain ⟨v, p, ns, is, ls, c, n, rfl, te, env, hn, hg, q⟩ := h
      refine ⟨_, (pss_cons (ps_if (pt_cmpR (op_eq2 hr.units : OpR _ _ (rEq2 K)) (pe_ix (ix_seq : IxR _ (rIx K)) (pv 0) pe_int (fun _ _ => rfl)) pe_str (nomark _)) (pss_cons (ps_asg (C8.pe_c (k_law_value T 2) hr (by first | decide | omega) (by rfl) (pa_cons (pe_ix (ix_seq : IxR _ (rIx K)) (pv 0) pe_int (fun _ _ => rfl)) (pa_cons (pv 1) pa_nil))) (pg_name (i := 2) sc_law_truth.nd rfl (Or.inl rfl))) (pss_cons (ps_if (pt_cmpR op_isN2 (pv 2) pe_non (nomark _)) (pss_one (ps_ret pe_non)) pss_nil) (pss_cons (ps_asg (C8.pe_c (k_law_value T 2) hr (by first | decide | omega) (by rfl) (pa_cons (pe_ix (ix_seq : IxR _ (rIx K)) (pv 0) pe_int (fun _ _ => rfl)) (pa_cons (pv 1) pa_nil))) (pg_name (i := 3) sc_law_truth.nd rfl (Or.inl rfl))) (pss_cons (ps_if (pt_cmpR op_isN2 (pv 3) pe_non (nomark _)) (pss_one (ps_ret pe_non)) pss_nil) (pss_one (ps_ret (C8.pe_c (k_law_compared T) hr (by first | decide | omega) (by rfl) (pa_cons (pe_ix (ix_seq : IxR _ (rIx K)) (pv 0) pe_int (fun _ _ => rfl)) (pa_cons (pv 2) (pa_cons (pv 3) pa_nil)))))))))) pss_nil) (pss_cons (ps_if (pt_cmpR (op_eq2 hr.units : OpR _ _ (rEq2 K)) (pe_ix (ix_seq : IxR _ (rIx K)) (pv 0) pe_int (fun _ _ => rfl)) pe_str (nomark _)) (pss_cons (ps_asg (C8.pe_c ih hr (by first | decide | omega) (by rfl) (pa_cons (pe_ix (ix_seq : IxR _ (rIx K)) (pv 0) pe_int (fun _ _ => rfl)) (pa_cons (pv 1) pa_nil))) (pg_name (i := 4) sc_law_truth.nd rfl (Or.inl rfl))) (pss_cons (ps_if (pt_cmpR op_isN2 (pv 4) pe_non (nomark _)) (pss_one (ps_ret pe_non)) pss_nil) (pss_one (ps_ret (pe_not (pv 4)))))) pss_nil) (pss_cons (ps_for PassesOwn.never rfl (pi_tup (pe_ix (ix_seq : IxR _ (rIx K)) (pv 0) pe_int (fun _ _ => rfl)) : PI _ _ _ (iTup K _)) (pg_name (i := 5) sc_law_truth.nd rfl (Or.inl rfl)) (pss_cons (ps_asg (C8.pe_c ih hr (by first | decide | omega) (by rfl) (pa_cons (pv 5) (pa_cons (pv 1) pa_nil))) (pg_name (i := 4) sc_law_truth.nd rfl (Or.inl rfl))) (pss_one (ps_if (PW.pt (pw_or (pt_cmpR op_isN2 (pv 4) pe_non (nomark _)) (pw_or1 (pt_cmpR (op_eq2 hr.units : OpR _ _ (rEq2 K)) (pv 4) (pe_cmpR (op_eq2 hr.units : OpR _ _ (rEq2 K)) (pe_ix (ix_seq : IxR _ (rIx K)) (pv 0) pe_int (fun _ _ => rfl)) pe_str (nomark _)) (nomark _))))) (pss_one (ps_ret (pv 4))) pss_nil)))) (pss_one (ps_ret (pe_cmpR (op_eq2 hr.units : OpR _ _ (rEq2 K)) (pe_ix (ix_seq : IxR _ (rIx K)) (pv 0) pe_int (fun _ _ => rfl)) pe_str (nomark _))))))), ?_⟩
      cases c with
      | cmp k l r =>
        obtain ⟨hk, gl, gr⟩ := ok_cmp hg
        rw [Cn.ev] at q
        obtain ⟨a, u, x, rfl, ea, tu, tx⟩ := cn_cmp te
        walk_at "ss"
        refine o_ixT (tup_of ea) (atI_nat (j := 0) rfl) ?_
        walk_at "ss"
        refine o_eqS rfl ?_
        walk_at "ss"
        refine iteT ?_
        walk_at "ss"
        refine o_ixT (tup_of ea) (atI_nat (j := 2) rfl) ?_
        walk_at "ss"
        refine ⟨u, p, ns, is, ls, l, rfl, tu, env, gl, l.dep_le, ?_⟩
        cases e1 : l.ev is ls with
        | none =>
          rw [e1] at q
          rw [show oI none = V.non from rfl]
          walk_at "ss"
          refine iteT ?_
          walk_at "ss"
          exact q H (Same.refl H)
        | some i =>
          rw [e1] at q
          rw [show oI (some i) = V.int i from rfl]
          walk_at "ss"
          refine iteF ?_
          walk_at "ss"
          refine o_ixT (tup_of ea) (atI_nat (j := 3) rfl) ?_
          walk_at "ss"
          refine ⟨x, p, ns, is, ls, r, rfl, tx, env, gr, r.dep_le, ?_⟩
          cases e2 : r.ev is ls with
          | none =>
            rw [e2] at q
            rw [show oI none = V.non from rfl]
            walk_at "ss"
            refine iteT ?_
            walk_at "ss"
            exact q H (Same.refl H)
          | some j =>
            rw [e2] at q
            rw [show oI (some j) = V.int j from rfl]
            walk_at "ss"
            refine iteF ?_
            walk_at "ss"
            refine o_ixT (tup_of ea) (atI_nat (j := 1) rfl) ?_
            walk_at "ss"
            exact ⟨k, i, j, rfl, hk, fun H' s' => q H' s'⟩
      | no c =>
        obtain ⟨n, rfl, gc⟩ := ok_no hg
        rw [Cn.ev] at q
        obtain ⟨a, u, rfl, ea, tu⟩ := cn_no te
        walk_at "ss"
        refine o_ixT (tup_of ea) (atI_nat (j := 0) rfl) ?_
        walk_at "ss"
        refine o_eqS rfl ?_
        walk_at "ss"
        refine iteF ?_
        walk_at "ss"
        refine o_ixT (tup_of ea) (atI_nat (j := 0) rfl) ?_
        walk_at "ss"
        refine o_eqS rfl ?_
        walk_at "ss"
        refine iteT ?_
        walk_at "ss"
        refine o_ixT (tup_of ea) (atI_nat (j := 1) rfl) ?_
        walk_at "ss"
        refine ⟨u, p, ns, is, ls, c, n, rfl, tu, env, by omega, gc, fun H1 s1 => ?_⟩
        cases e : c.ev is ls with
        | none =>
          rw [e] at q
          rw [show oB none = V.non from rfl]
          walk_at "ss"
          refine iteT ?_
          walk_at "ss"
          exact q _ s1
        | some b =>
          rw [e] at q
          rw [show oB (some b) = V.bl b from rfl]
          walk_at "ss"
          refine iteF ?_
          walk_at "ss"
          exact q _ s1
      | jn o cs =>
        obtain ⟨n, rfl, gc⟩ := ok_jn hg
        rw [Cn.ev] at q
        obtain ⟨a, b, us, rfl, ea, eb, tu⟩ := cn_jn te
        walk_at "ss"
        refine o_ixT (tup_of ea) (atI_nat (j := 0) rfl) ?_
        walk_at "ss"
        refine o_eqS rfl ?_
        rw [jw_cmp]
        walk_at "ss"
        refine iteF ?_
        walk_at "ss"
        refine o_ixT (tup_of ea) (atI_nat (j := 0) rfl) ?_
        walk_at "ss"
        refine o_eqS rfl ?_
        rw [jw_not]
        walk_at "ss"
        refine iteF ?_
        walk_at "ss"
        refine o_ixT (tup_of ea) (atI_nat (j := 1) rfl) ?_
        refine k_t (tup_of eb) ?_
        refine f_tup (xs := us) (fun i σ H' => ∃ y z, σ = [some (.ref a), some (.ref p), none, none, y, z] ∧ Same H H' ∧ Cn.evs is ls o (cs.drop i) = Cn.evs is ls o cs) ⟨_, _, rfl, Same.refl H, rfl⟩
          (fun i σ H' hi p => tup_of (p.choose_spec.choose_spec.2.1 _ _ eb)) (fun i x σ H' hx p => ?_) (fun σ H' p => ?_)
        · obtain ⟨y, z, rfl, s1, hv⟩ := p
          obtain ⟨c, hc, tc⟩ := part_at tu hx
          rw [Cn.evs_drop hc] at hv
          walk_at "ss"
          refine ⟨x, p, ns, is, ls, c, n, rfl, tc.tk s1.tk, env.same s1, by omega, Cn.oks_get gc hc, fun H2 s2 => ?_⟩
          have s2 := s1.trans s2
          cases e : c.ev is ls with
          | none =>
            rw [e] at hv
            rw [show oB none = V.non from rfl]
            walk_at "ss"
            refine iteT ?_
            refine iteT ?_
            walk_at "ss"
            rw [← hv] at q
            exact q _ s2
          | some d =>
            rw [e] at hv
            rw [show oB (some d) = V.bl d from rfl]
            walk_at "ss"
            refine iteF ?_
            walk_at "ss"
            refine o_ixT (tup_of (s2 _ _ ea)) (atI_nat (j := 0) rfl) ?_
            walk_at "ss"
            refine o_eqS rfl ?_
            rw [jw_or]
            refine o_eqS rfl ?_
            rw [dec_bl]
            walk_at "ss"
            refine ite2 (fun e1 => ?_) (fun e1 => ?_)
            · have e1 := of_decide_eq_true e1
              walk_at "ss"
              have hv : (if d = o then some d else Cn.evs is ls o (cs.drop (i + 1)) : Option Bool) = Cn.evs is ls o cs := hv
              rw [← hv, if_pos e1] at q
              exact q _ s2
            · have e1 : ¬ d = o := fun h => e1 (decide_eq_true h)
              walk_at "ss"
              have hv : (if d = o then some d else Cn.evs is ls o (cs.drop (i + 1)) : Option Bool) = Cn.evs is ls o cs := hv
              rw [if_neg e1] at hv
              exact ⟨_, _, rfl, s2, hv⟩
        · obtain ⟨y, z, rfl, s1, hv⟩ := p
          have hl := tu.length
          rw [Cn.ds_len] at hl
          rw [hl, List.drop_length] at hv
          walk_at "ss"
          refine o_ixT (tup_of (s1 _ _ ea)) (atI_nat (j := 0) rfl) ?_
          walk_at "ss"
          refine o_eqS rfl ?_
          rw [jw_and]
          rw [← hv] at q
          exact q _ s1
/-! ### drawing -/
def spInt : Sp := fun vs H Q _ => ∃ (h d : Addr), vs = [.ref h] ∧ HandAt H h d ∧ ∀ (r : Int) H', Keep h H H' → HandAt H' h d → Q (.int r) H'
theorem k_law_some (T : Tx K mg) : C8.Cal P w K mg base 3 "_law_some" spInt [] := by
  refine cal_of (N := n_law_some) T.d_law_some sc_law_some (fun _ _ F => F.bindsN fun _ _ _ _ _ _ us hl => match us, hl with | [_], _ => rfl) (fun vs H Q E h => ?_) (fun f cdv A outer s H vs Q E hr h => ?_)
  · obtain ⟨a, d, rfl, _⟩ := h
    rfl
  · obtain ⟨a, d, rfl, hh, q⟩ := h
    refine ⟨_, (pss_cons (ps_if (pt_cmpR (op_eq2 hr.units : OpR _ _ (rEq2 K)) (C8.pe_c (k_law_take T) hr (by first | decide | omega) (by rfl) (pa_cons (pv 0) (pa_cons pe_int pa_nil))) pe_int (nomark _)) (pss_one (ps_ret (pe_op op_sub (C8.pe_c (k_law_wide T) hr (by first | decide | omega) (by rfl) (pa_cons (pv 0) (pa_cons (pe_op op_add3 (pe_op op_mul2 pe_int (pe_op op_pow pe_int pe_int)) pe_int) pa_nil))) (pe_op op_pow pe_int pe_int)))) pss_nil) (pss_one (ps_ret (pe_op op_sub (C8.pe_c (k_law_take T) hr (by first | decide | omega) (by rfl) (pa_cons (pv 0) (pa_cons pe_int pa_nil))) pe_int)))), ?_⟩
    walk_at "ss"
    refine ⟨a, d, _, rfl, hh, by omega, fun r H1 r0 r1 c1 hh1 => ?_⟩
    walk_at "ss"
    refine o_eqS rfl ?_
    walk_at "ss"
    refine ite2 (fun e => ?_) (fun e => ?_)
    · walk_at "ss"
      refine ⟨a, d, _, rfl, hh1, by decide, fun r2 H2 r3 r4 k2 hh2 => ?_⟩
      walk_at "ss"
      exact q _ H2 (c1.keep.trans k2) hh2
    · walk_at "ss"
      refine ⟨a, d, _, rfl, hh1, by decide, fun r2 H2 r3 r4 c2 hh2 => ?_⟩
      walk_at "ss"
      exact q _ H2 (c1.keep.trans c2.keep) hh2
theorem k_law_number (T : Tx K mg) : C8.Cal P w K mg base 3 "_law_number" spInt [] := by
  refine cal_of (N := n_law_number) T.d_law_number sc_law_number (fun _ _ F => F.bindsN fun _ _ _ _ _ _ us hl => match us, hl with | [_], _ => rfl) (fun vs H Q E h => ?_) (fun f cdv A outer s H vs Q E hr h => ?_)
  · obtain ⟨a, d, rfl, _⟩ := h
    rfl
  · obtain ⟨a, d, rfl, hh, q⟩ := h
    refine ⟨_, (pss_cons (ps_if (pt_cmpR (op_eq2 hr.units : OpR _ _ (rEq2 K)) (C8.pe_c (k_law_take T) hr (by first | decide | omega) (by rfl) (pa_cons (pv 0) (pa_cons pe_int pa_nil))) pe_int (nomark _)) (pss_one (ps_ret (pe_op op_sub (C8.pe_c (k_law_wide T) hr (by first | decide | omega) (by rfl) (pa_cons (pv 0) (pa_cons pe_int pa_nil))) pe_int))) pss_nil) (pss_one (ps_ret (pe_op op_sub (C8.pe_c (k_law_take T) hr (by first | decide | omega) (by rfl) (pa_cons (pv 0) (pa_cons pe_int pa_nil))) pe_int)))), ?_⟩
    walk_at "ss"
    refine ⟨a, d, _, rfl, hh, by omega, fun r H1 r0 r1 c1 hh1 => ?_⟩
    walk_at "ss"
    refine o_eqS rfl ?_
    walk_at "ss"
    refine ite2 (fun e => ?_) (fun e => ?_)
    · walk_at "ss"
      refine ⟨a, d, _, rfl, hh1, by decide, fun r2 H2 r3 r4 k2 hh2 => ?_⟩
      walk_at "ss"
      exact q _ H2 (c1.keep.trans k2) hh2
    · walk_at "ss"
      refine ⟨a, d, _, rfl, hh1, by decide, fun r2 H2 r3 r4 c2 hh2 => ?_⟩
      walk_at "ss"
      exact q _ H2 (c1.keep.trans c2.keep) hh2
end
end K09
namespace K09
open PySem PySem.Spec PyProof.Rows L2 Wy WD

-- REC value_of 2
-- REC _law_value 2
-- DICTS variables found kept other
section
variable {P : Program} {w : World} {K : PySem.W.Frag} {mg : Str → Option Value} {base : Heap}
theorem names_ne {H : Hp} {h d a : Addr} {ns : List Str} (x : HandAt H h d) (e : H a = some (.lst (ns.map V.str))) : a ≠ h := by
  intro z
  subst z
  obtain ⟨n, ds, h1, _⟩ := x
  rw [h1] at e
  have e := HO.lst.inj (Option.some.inj e)
  cases ns with
  | nil => cases e
  | cons x xs => cases e
theorem str_item (xs : List Str) {j : Nat} (hj : j < xs.length) : ∃ y, (xs.map V.str)[j]? = some (.str y) ∧ y ∈ xs := ⟨xs[j], by rw [List.getElem?_map, List.getElem?_eq_getElem hj]; rfl, List.getElem_mem hj⟩
def isI : V → Bool
  | .int _ => true
  | _ => false
theorem int_item (xs : List V) (h : xs.all isI = true) {j : Nat} (hj : j < xs.length) : ∃ i : Int, xs[j]? = some (.int i) := by
  have h1 := List.all_eq_true.mp h xs[j] (List.getElem_mem hj)
  cases e : xs[j] with
  | int i => exact ⟨i, by rw [List.getElem?_eq_getElem hj, e]⟩
  | _ =>
    rw [e] at h1
    cases h1
def spNames : Sp := fun vs H Q _ => ∃ (h d : Addr), vs = [.ref h] ∧ HandAt H h d ∧ ∀ p H' ns, Keep h H H' → HandAt H' h d → H p = none → H' p = some (.lst (ns.map V.str)) → ns.length = 6 → NamesOk ns → Q (.ref p) H'
theorem letter_at {i : Nat} (h : i < 6) : ("abcdxy" : Str).cps.toList[i]? = some (("abcdxy" : Str).cps.toList.getD i 0) := by
  rw [List.getD_eq_getElem?_getD, List.getElem?_eq_getElem (by exact h)]
  rfl
theorem pads_len : ∀ y ∈ PADS, y.length ≤ 11 := by decide +kernel
theorem let_len (i : Nat) : (let9 i).length = 1 := rfl
theorem names_snoc {ns : List Str} {n : Str} {i : Nat} (hl : ns.length = i) (g : NamesOk ns) (h : n ∈ namesOf i) : NamesOk (ns ++ [n]) := by
  intro k m hk
  by_cases hlt : k < ns.length
  · rw [List.getElem?_append_left hlt] at hk
    exact g k m hk
  · rw [List.getElem?_append_right (by omega)] at hk
    have : k - ns.length = 0 := by
      have := (List.getElem?_eq_some_iff.mp hk).1
      simp at this
      omega
    rw [this] at hk
    cases hk
    have : k = i := by omega
    rw [this]
    exact h
theorem k_law_names_of (T : Tx K mg) : C8.Cal P w K mg base 2 "_law_names_of" spNames [] := by
  refine cal_of (N := n_law_names_of) T.d_law_names_of sc_law_names_of (fun _ _ F => F.bindsN fun _ _ _ _ _ _ us hl => match us, hl with | [_], _ => rfl) (fun vs H Q E h => ?_) (fun f cdv A outer s H vs Q E hr h => ?_)
  · obtain ⟨a, d, rfl, _⟩ := h
    rfl
  · obtain ⟨a, d, rfl, hh, q⟩ := h
    refine ⟨_, (pss_cons (ps_asg (pe_lst pa_nil) (pg_name (i := 1) sc_law_names_of.nd rfl (Or.inl rfl))) (pss_cons (ps_for PassesOwn.never rfl (pi_range1 (by rfl) T.z_range (pa_cons pe_int pa_nil)) (pg_name (i := 2) sc_law_names_of.nd rfl (Or.inl rfl)) (pss_cons (ps_asg (pe_ix (ix_seq : IxR _ (rIx K)) (pe_lst (pa_cons pe_str (pa_cons pe_str (pa_cons pe_str (pa_cons pe_str pa_nil))))) (C8.pe_c (k_law_take T) hr (by first | decide | omega) (by rfl) (pa_cons (pv 0) (pa_cons pe_int pa_nil))) (fun _ _ => rfl)) (pg_name (i := 3) sc_law_names_of.nd rfl (Or.inl rfl))) (pss_cons (ps_asg (pe_ix (ix_seq : IxR _ (rIx K)) pe_str (pv 2) (fun _ _ => rfl)) (pg_name (i := 4) sc_law_names_of.nd rfl (Or.inl rfl))) (pss_one (ps_if (pt_cmpR (op_eq2 hr.units : OpR _ _ (rEq2 K)) (C8.pe_c (k_law_take T) hr (by first | decide | omega) (by rfl) (pa_cons (pv 0) (pa_cons pe_int pa_nil))) pe_int (nomark _)) (pss_one (ps_expr (pe_bm PySem.F.plainAttrs_list PySem.F.slot_list_append PySem.F.type_list_append mt_append (pv 1) (pa_cons (pe_op op_add3 (pv 4) (pv 3)) pa_nil) : PE _ _ (tBM K _ _ _ _)))) (pss_one (ps_expr (pe_bm PySem.F.plainAttrs_list PySem.F.slot_list_append PySem.F.type_list_append mt_append (pv 1) (pa_cons (pe_op op_add3 (pv 3) (pv 4)) pa_nil) : PE _ _ (tBM K _ _ _ _))))))))) (pss_one (ps_ret (pv 1))))), ?_⟩
    walk_at "ss"
    refine n_obj (lz (by simp)) fun D H1 nD s1 e1 => ?_
    have nn := hh.new nD
    walk_at "ss"
    refine k_r1 (by omega) (by omega) ?_
    refine f_range (fun i σ H' => ∃ k y z, ∃ ns : List Str, σ = [some (.ref a), some (.ref D), k, y, z] ∧ Keep a H H' ∧ HandAt H' a d ∧ H' D = some (.lst (ns.map V.str)) ∧ ns.length = i ∧ NamesOk ns) ⟨_, _, _, [], rfl, s1.keep, hh.same s1, e1, rfl, fun i n h => by cases h⟩ (fun i σ H2 hi p => ?_) (fun σ H2 p => ?_)
    · obtain ⟨k, y, z, ns, rfl, k2, hh2, e2, hl, hg⟩ := p
      have hi : i < 6 := hi
      walk_at "ss"
      refine n_obj (lz (by simp)) fun p3 H3 n3 s3 e3 => ?_
      have nn3 := hh2.new n3
      walk_at "ss"
      refine ⟨a, d, _, rfl, hh2.same s3, by omega, fun r H4 r0 r1 c4 hh4 => ?_⟩
      obtain ⟨j, hj⟩ : ∃ j : Nat, r = (j : Int) := ⟨r.toNat, by omega⟩
      subst hj
      obtain ⟨pad, g4, hp⟩ := str_item PADS (j := j) (by show j < 4; omega)
      have lp := pads_len pad hp
      walk_at "ss"
      refine o_ixL (lst_of (c4.at e3 nn3.1.symm)) (atI_nat g4) ?_
      have k4 := (k2.trans s3.keep).trans c4.keep
      have e4 := c4.at (s3 _ _ e2) nn.1.symm
      walk_at "ss"
      refine o_ixS (by decide +kernel) (atI_of (j := i) (by omega) (letter_at hi)) ?_
      walk_at "ss"
      refine ⟨a, d, _, rfl, hh4, by omega, fun r5 H5 r6 r7 c5 hh5 => ?_⟩
      have k5 := k4.trans c5.keep
      have e5 := c5.at e4 nn.1.symm
      walk_at "ss"
      refine o_eqS rfl ?_
      walk_at "ss"
      refine ite2 (fun e => ?_) (fun e => ?_)
      · walk_at "ss"
        refine m_ty (lst_of e5) ?_
        walk_at "ss"
        refine o_addS (lz (by show 1 + _ ≤ _; omega)) ?_
        walk_at "ss"
        refine m_app e5 (by rw [List.length_map]; exact small1000 (by omega)) fun H6 c6 e6 => ?_
        refine ⟨_, _, _, ns ++ [let9 i ++ pad], rfl, k5.chg c6 nD, hh5.chg c6 nn.1 nn.2, by rw [e6, List.map_append]; rfl, by rw [List.length_append, hl]; rfl, names_snoc hl hg (List.mem_append_left _ (List.mem_map.mpr ⟨pad, hp, rfl⟩))⟩
      · walk_at "ss"
        refine m_ty (lst_of e5) ?_
        walk_at "ss"
        refine o_addS (lz (by show _ + 1 ≤ _; omega)) ?_
        walk_at "ss"
        refine m_app e5 (by rw [List.length_map]; exact small1000 (by omega)) fun H6 c6 e6 => ?_
        refine ⟨_, _, _, ns ++ [pad ++ let9 i], rfl, k5.chg c6 nD, hh5.chg c6 nn.1 nn.2, by rw [e6, List.map_append]; rfl, by rw [List.length_append, hl]; rfl, names_snoc hl hg (List.mem_append_right _ (List.mem_map.mpr ⟨pad, hp, rfl⟩))⟩
    · obtain ⟨k, y, z, ns, rfl, k2, hh2, e2, hl, hg⟩ := p
      walk_at "ss"
      exact q D H2 ns k2 hh2 nD e2 hl hg
def spPlain : Sp := fun vs H Q _ => ∃ (h d a : Addr) (ns : List Str), vs = [.ref h, .ref a] ∧ HandAt H h d ∧ H a = some (.lst (ns.map V.str)) ∧ ns.length = 6 ∧ ∀ v H' (e : X9), Keep h H H' → HandAt H' h d → Tp H' v (e.d ns) → e.plain → Q v H'
theorem nm_item {ns : List Str} {k : Nat} (h : k < ns.length) : (ns.map V.str)[k]? = some (.str (nm ns k)) := by
  rw [List.getElem?_map, nm_at h]
  rfl
theorem k_law_plain (T : Tx K mg) : C8.Cal P w K mg base 4 "_law_plain" spPlain [] := by
  refine cal_of (N := n_law_plain) T.d_law_plain sc_law_plain (fun _ _ F => F.bindsN fun _ _ _ _ _ _ us hl => match us, hl with | [_, _], _ => rfl) (fun vs H Q E h => ?_) (fun f cdv A outer s H vs Q E hr h => ?_)
  · obtain ⟨h, d, a, ns, rfl, _⟩ := h
    rfl
  · obtain ⟨h, d, a, ns, rfl, hh, ea, hl, q⟩ := h
    have na := names_ne hh ea
    refine ⟨_, (pss_cons (ps_if (pt_cmpR (op_eq2 hr.units : OpR _ _ (rEq2 K)) (C8.pe_c (k_law_take T) hr (by first | decide | omega) (by rfl) (pa_cons (pv 0) (pa_cons pe_int pa_nil))) pe_int (nomark _)) (pss_one (ps_ret (pe_tup (pa_cons pe_str (pa_cons (C8.pe_c (k_law_number T) hr (by first | decide | omega) (by rfl) (pa_cons (pv 0) pa_nil)) pa_nil))))) pss_nil) (pss_one (ps_ret (pe_tup (pa_cons pe_str (pa_cons (pe_ix (ix_seq : IxR _ (rIx K)) (pv 1) (C8.pe_c (k_law_take T) hr (by first | decide | omega) (by rfl) (pa_cons (pv 0) (pa_cons pe_int pa_nil))) (fun _ _ => rfl)) (pa_cons (pe_ix (ix_seq : IxR _ (rIx K)) (pe_lst (pa_cons pe_int (pa_cons pe_int (pa_cons pe_int (pa_cons (pe_un un_neg pe_int) (pa_cons (C8.pe_c (k_law_number T) hr (by first | decide | omega) (by rfl) (pa_cons (pv 0) pa_nil)) pa_nil)))))) (C8.pe_c (k_law_take T) hr (by first | decide | omega) (by rfl) (pa_cons (pv 0) (pa_cons pe_int pa_nil))) (fun _ _ => rfl)) pa_nil))))))), ?_⟩
    walk_at "ss"
    refine ⟨h, d, _, rfl, hh, by omega, fun r H1 r0 r1 c1 hh1 => ?_⟩
    walk_at "ss"
    refine o_eqS rfl ?_
    walk_at "ss"
    refine ite2 (fun e => ?_) (fun e => ?_)
    · walk_at "ss"
      refine ⟨h, d, rfl, hh1, fun r2 H2 k2 hh2 => ?_⟩
      walk_at "ss"
      refine n_obj (lz (by simp)) fun p3 H3 n3 s3 e3 => ?_
      exact q _ H3 (.num r2) ((c1.keep.trans k2).trans s3.keep) (hh2.same s3) (.tup e3 (.cons (.str _) (.cons (.int _) .nil))) True.intro
    · walk_at "ss"
      refine ⟨h, d, _, rfl, hh1, by omega, fun r2 H2 r3 r4 c2 hh2 => ?_⟩
      obtain ⟨j, hj⟩ : ∃ j : Nat, r2 = (j : Int) := ⟨r2.toNat, by omega⟩
      subst hj
      have k2 := c1.keep.trans c2.keep
      walk_at "ss"
      refine o_ixL (lst_of (k2 _ _ na ea)) (atI_nat (nm_item (k := j) (by omega))) ?_
      walk_at "ss"
      refine ⟨h, d, rfl, hh2, fun r5 H5 k5 hh5 => ?_⟩
      walk_at "ss"
      refine n_obj (lz (by simp)) fun p6 H6 n6 s6 e6 => ?_
      have nn6 := hh5.new n6
      walk_at "ss"
      refine ⟨h, d, _, rfl, hh5.same s6, by omega, fun r7 H7 r8 r9 c7 hh7 => ?_⟩
      obtain ⟨m, hm⟩ : ∃ m : Nat, r7 = (m : Int) := ⟨r7.toNat, by omega⟩
      subst hm
      obtain ⟨x, gx⟩ := int_item [.int 0, .int 0, .int 1, .int (-1), .int r5] rfl (j := m) (by show m < 5; omega)
      walk_at "ss"
      refine o_ixL (lst_of (c7.at e6 nn6.1.symm)) (atI_nat gx) ?_
      walk_at "ss"
      refine n_obj (lz (by simp)) fun p8 H8 n8 s8 e8 => ?_
      exact q _ H8 (.var j x) ((((k2.trans k5).trans s6.keep).trans c7.keep).trans s8.keep) (hh7.same s8) (.tup e8 (.cons (.str _) (.cons (.str _) (.cons (.int _) .nil)))) (by show j < 4; omega)
def spExpr : Sp := fun vs H Q _ => ∃ (h d a : Addr) (ns : List Str), vs = [.ref h, .ref a] ∧ HandAt H h d ∧ H a = some (.lst (ns.map V.str)) ∧ ns.length = 6 ∧ ∀ v H' (e : X9), Keep h H H' → HandAt H' h d → Tp H' v (e.d ns) → e.good → Q v H'
theorem k_law_expression (T : Tx K mg) : C8.Cal P w K mg base 5 "_law_expression" spExpr [] := by
  refine cal_of (N := n_law_expression) T.d_law_expression sc_law_expression (fun _ _ F => F.bindsN fun _ _ _ _ _ _ us hl => match us, hl with | [_, _], _ => rfl) (fun vs H Q E h => ?_) (fun f cdv A outer s H vs Q E hr h => ?_)
  · obtain ⟨h, d, a, ns, rfl, _⟩ := h
    rfl
  · obtain ⟨h, d, a, ns, rfl, hh, ea, hl, q⟩ := h
    have na := names_ne hh ea
    refine ⟨_, (pss_cons (ps_if (pt_cmpR (op_eq2 hr.units : OpR _ _ (rEq2 K)) (C8.pe_c (k_law_take T) hr (by first | decide | omega) (by rfl) (pa_cons (pv 0) (pa_cons pe_int pa_nil))) pe_int (nomark _)) (pss_one (ps_ret (C8.pe_c (k_law_plain T) hr (by first | decide | omega) (by rfl) (pa_cons (pv 0) (pa_cons (pv 1) pa_nil))))) pss_nil) (pss_one (ps_ret (pe_tup (pa_cons pe_str (pa_cons (pe_ix (ix_seq : IxR _ (rIx K)) (pv 1) (pe_op op_add3 pe_int (C8.pe_c (k_law_take T) hr (by first | decide | omega) (by rfl) (pa_cons (pv 0) (pa_cons pe_int pa_nil)))) (fun _ _ => rfl)) (pa_cons (C8.pe_c (k_law_plain T) hr (by first | decide | omega) (by rfl) (pa_cons (pv 0) (pa_cons (pv 1) pa_nil))) (pa_cons (pe_ix (ix_seq : IxR _ (rIx K)) (pe_lst (pa_cons pe_int (pa_cons pe_int (pa_cons (pe_un un_neg pe_int) (pa_cons (C8.pe_c (k_law_number T) hr (by first | decide | omega) (by rfl) (pa_cons (pv 0) pa_nil)) pa_nil))))) (C8.pe_c (k_law_take T) hr (by first | decide | omega) (by rfl) (pa_cons (pv 0) (pa_cons pe_int pa_nil))) (fun _ _ => rfl)) pa_nil)))))))), ?_⟩
    walk_at "ss"
    refine ⟨h, d, _, rfl, hh, by omega, fun r H1 r0 r1 c1 hh1 => ?_⟩
    walk_at "ss"
    refine o_eqS rfl ?_
    walk_at "ss"
    refine ite2 (fun e => ?_) (fun e => ?_)
    · walk_at "ss"
      exact ⟨h, d, a, ns, rfl, hh1, c1.at ea na, hl, fun v H' e k hh' t g => q v H' e (c1.keep.trans k) hh' t g.good⟩
    · walk_at "ss"
      refine ⟨h, d, _, rfl, hh1, by omega, fun r2 H2 r3 r4 c2 hh2 => ?_⟩
      obtain ⟨j, hj⟩ : ∃ j : Nat, r2 = (j : Int) := ⟨r2.toNat, by omega⟩
      subst hj
      have k2 := c1.keep.trans c2.keep
      walk_at "ss"
      refine o_ixL (lst_of (k2 _ _ na ea)) (atI_of (j := 4 + j) (by omega) (nm_item (k := 4 + j) (by omega))) ?_
      walk_at "ss"
      refine ⟨h, d, a, ns, rfl, hh2, k2 _ _ na ea, hl, fun v3 H3 e3 k3 hh3 t3 g3 => ?_⟩
      walk_at "ss"
      refine ⟨h, d, rfl, hh3, fun r5 H5 k5 hh5 => ?_⟩
      walk_at "ss"
      refine n_obj (lz (by simp)) fun p6 H6 n6 s6 e6 => ?_
      have nn6 := hh5.new n6
      walk_at "ss"
      refine ⟨h, d, _, rfl, hh5.same s6, by omega, fun r7 H7 r8 r9 c7 hh7 => ?_⟩
      obtain ⟨m, hm⟩ : ∃ m : Nat, r7 = (m : Int) := ⟨r7.toNat, by omega⟩
      subst hm
      obtain ⟨x, gx⟩ := int_item [.int 0, .int 1, .int (-2), .int r5] rfl (j := m) (by show m < 4; omega)
      walk_at "ss"
      refine o_ixL (lst_of (c7.at e6 nn6.1.symm)) (atI_nat gx) ?_
      walk_at "ss"
      refine n_obj (lz (by simp)) fun p8 H8 n8 s8 e8 => ?_
      have t8 := (((t3.tk (hh3.keep_tk k5)).tk s6.tk).tk ((hh5.same s6).chg_tk c7)).tk s8.tk
      exact q _ H8 (.item j e3 x) (((((k2.trans k3).trans k5).trans s6.keep).trans c7.keep).trans s8.keep) (hh7.same s8) (.tup e8 (.cons (.str _) (.cons (.str _) (.cons t8 (.cons (.int _) .nil))))) ⟨by omega, g3⟩
/-- a condition, out of the hand -/
def spTree (m : Nat) : Sp := fun vs H Q _ => ∃ (h d a : Addr) (ns : List Str) (n : Nat) (z : Int), vs = [.ref h, .ref a, .int (n : Int), .int z] ∧ HandAt H h d ∧ H a = some (.lst (ns.map V.str)) ∧ ns.length = 6 ∧ n < m ∧ z ≤ 300 ∧ ∀ v H' (c : Cn), Keep h H H' → HandAt H' h d → Tp H' v (c.d ns) → c.ok n → Q v H'
theorem spTree_no (vs : List V) (H : Hp) (Q : VK) (E : XK) : ¬ spTree 0 vs H Q E := by
  rintro ⟨_, _, _, _, _, _, _, _, _, _, h, _⟩
  omega
theorem k_law_tree (T : Tx K mg) : ∀ m : Nat, C8.Cal P w K mg base (m + 5) "_law_tree" (spTree m) []
  | 0 => cal_never (ps := ["hand", "names", "depth", "purse"]) T.d_law_tree (fun _ _ F => F.bindsN fun _ _ _ _ _ _ us hl => match us, hl with | [_, _, _, _], _ => rfl) spTree_no
  | m + 1 => by
    have ih := k_law_tree T m
    refine cal_of (N := n_law_tree) T.d_law_tree sc_law_tree (fun _ _ F => F.bindsN fun _ _ _ _ _ _ us hl => match us, hl with | [_, _, _, _], _ => rfl) (fun vs H Q E h => ?_) (fun f cdv A outer s H vs Q E hr h => ?_)
    · obtain ⟨h, d, a, ns, n, z, rfl, _⟩ := h
      rfl
    · obtain ⟨h, d, a, ns, n, z, rfl, hh, ea, hl, hn, hz, q⟩ := h
      have na := names_ne hh ea
      refine ⟨_, (pss_cons (ps_asg (C8.pe_c (k_law_take T) hr (by first | decide | omega) (by rfl) (pa_cons (pv 0) (pa_cons pe_int pa_nil))) (pg_name (i := 4) sc_law_tree.nd rfl (Or.inl rfl))) (pss_cons (ps_if (PW.pt (pw_or (pt_cmpR (op_eq2 hr.units : OpR _ _ (rEq2 K)) (pv 2) pe_int (nomark _)) (pw_or (pt_cmpR (op_eq2 hr.units : OpR _ _ (rEq2 K)) (pv 4) pe_int (nomark _)) (pw_or1 (PW.pt (pw_and (pt_cmpR op_gt (pv 4) pe_int (nomark _)) (pw_and1 (pt_cmpR op_lt (pv 3) pe_int (nomark _))))))))) (pss_cons (ps_asg (pe_ix (ix_seq : IxR _ (rIx K)) (pe_lst (pa_cons pe_str (pa_cons pe_str (pa_cons pe_str (pa_cons pe_str (pa_cons pe_str (pa_cons pe_str pa_nil))))))) (C8.pe_c (k_law_take T) hr (by first | decide | omega) (by rfl) (pa_cons (pv 0) (pa_cons pe_int pa_nil))) (fun _ _ => rfl)) (pg_name (i := 5) sc_law_tree.nd rfl (Or.inl rfl))) (pss_one (ps_ret (pe_tup (pa_cons pe_str (pa_cons (pv 5) (pa_cons (C8.pe_c (k_law_expression T) hr (by first | decide | omega) (by rfl) (pa_cons (pv 0) (pa_cons (pv 1) pa_nil))) (pa_cons (C8.pe_c (k_law_expression T) hr (by first | decide | omega) (by rfl) (pa_cons (pv 0) (pa_cons (pv 1) pa_nil))) pa_nil)))))))) pss_nil) (pss_cons (ps_if (pt_cmpR op_lt (pv 4) pe_int (nomark _)) (pss_one (ps_ret (pe_tup (pa_cons pe_str (pa_cons (C8.pe_c ih hr (by first | decide | omega) (by rfl) (pa_cons (pv 0) (pa_cons (pv 1) (pa_cons (pe_op op_sub (pv 2) pe_int) (pa_cons (pv 3) pa_nil))))) pa_nil))))) pss_nil) (pss_cons (ps_asg (pe_op op_add3 pe_int (pe_op op_fdiv (C8.pe_c (k_law_take T) hr (by first | decide | omega) (by rfl) (pa_cons (pv 0) (pa_cons (pe_op op_sub (pe_op op_mul2 pe_int (pv 3)) pe_int) pa_nil))) pe_int)) (pg_name (i := 6) sc_law_tree.nd rfl (Or.inr rfl))) (pss_cons (ps_setLc (i := 7) (own := [("k", 8)]) (g := gName 8) (by rfl) sc_law_tree.nd rfl rfl (sw_true rfl rfl rfl (by decide +kernel)) (pi_range1 (by rfl) T.z_range (pa_cons (pv 6) pa_nil)) (blkOk_by (own := [("k", 8)]) (N := n_law_tree) (sc := defScope s_law_tree) (by decide +kernel)) (fun _ _ _ _ _ => pg_name (i := 8) sc_law_tree.nd rfl (Or.inl rfl)) (fun _ _ _ _ _ => pts_nil) (fun _ _ _ _ _ => (C8.pe_c ih hr (by first | decide | omega) (by rfl) (pa_cons (pv 0) (pa_cons (pv 1) (pa_cons (pe_op op_sub (pv 2) pe_int) (pa_cons (pe_op op_fdiv (pv 3) (pv 6)) pa_nil))))))) (pss_one (ps_ret (pe_tup (pa_cons (pe_ix (ix_seq : IxR _ (rIx K)) (pe_lst (pa_cons pe_str (pa_cons pe_str pa_nil))) (C8.pe_c (k_law_take T) hr (by first | decide | omega) (by rfl) (pa_cons (pv 0) (pa_cons pe_int pa_nil))) (fun _ _ => rfl)) (pa_cons (pe_callTy (call_tup2 : CallR _ _ (rTup K)) (by rfl) T.z_tuple (by decide +kernel) (pa_cons (pv 7) pa_nil)) pa_nil)))))))))), ?_⟩
      walk_at "ss"
      refine ⟨h, d, _, rfl, hh, by omega, fun r H1 r0 r1 c1 hh1 => ?_⟩
      walk_at "ss"
      refine o_eqS rfl ?_
      walk_at "ss"
      refine ite2 (fun e1 => ?_) (fun e1 => ?_)
      · refine iteT ?_
        walk_at "ss"
        refine n_obj (lz (by simp)) fun p2 H2 n2 s2 e2 => ?_
        have nn2 := hh1.new n2
        walk_at "ss"
        refine ⟨h, d, _, rfl, hh1.same s2, by omega, fun r3 H3 r4 r5 c3 hh3 => ?_⟩
        obtain ⟨j, hj⟩ : ∃ j : Nat, r3 = (j : Int) := ⟨r3.toNat, by omega⟩
        subst hj
        have hj : j < 6 := by omega
        walk_at "ss"
        refine o_ixL (lst_of (c3.at e2 nn2.1.symm)) (atI_nat (j := j) (v := .str (SG.getD j "")) (by rw [show ([V.str "<", V.str "<=", V.str ">", V.str ">=", V.str "==", V.str "!="] : List V) = SG.map V.str from rfl, List.getElem?_map, List.getD_eq_getElem?_getD, List.getElem?_eq_getElem (by exact hj)]; rfl)) ?_
        have k3 : Keep h H H3 := (c1.keep.trans s2.keep).trans c3.keep
        walk_at "ss"
        refine ⟨h, d, a, ns, rfl, hh3, k3 _ _ na ea, hl, fun v4 H4 e4 k4 hh4 t4 g4 => ?_⟩
        walk_at "ss"
        have k4' := k3.trans k4
        refine ⟨h, d, a, ns, rfl, hh4, k4' _ _ na ea, hl, fun v5 H5 e5 k5 hh5 t5 g5 => ?_⟩
        walk_at "ss"
        refine n_obj (lz (by simp)) fun p6 H6 n6 s6 e6 => ?_
        refine q _ H6 (.cmp j e4 e5) ((k4'.trans k5).trans s6.keep) (hh5.same s6) ?_ ?_
        · rw [Cn.d]
          exact .tup e6 (.cons (.str _) (.cons (.str _) (.cons ((t4.tk (hh4.keep_tk k5)).tk s6.tk) (.cons (t5.tk s6.tk) .nil))))
        · cases n <;> (simp only [Cn.ok]; exact ⟨hj, g4, g5⟩)
      have e1 : ¬ n = 0 := fun h => e1 (decide_eq_true (by rw [h]; rfl))
      obtain ⟨n, rfl⟩ : ∃ n', n = n' + 1 := ⟨n - 1, by omega⟩
      walk_at "ss"
      refine o_eqS rfl ?_
      walk_at "ss"
      refine ite2 (fun e2 => ?_) (fun e2 => ?_)
      · refine iteT ?_
        walk_at "ss"
        refine n_obj (lz (by simp)) fun p2 H2 n2 s2 e2 => ?_
        have nn2 := hh1.new n2
        walk_at "ss"
        refine ⟨h, d, _, rfl, hh1.same s2, by omega, fun r3 H3 r4 r5 c3 hh3 => ?_⟩
        obtain ⟨j, hj⟩ : ∃ j : Nat, r3 = (j : Int) := ⟨r3.toNat, by omega⟩
        subst hj
        have hj : j < 6 := by omega
        walk_at "ss"
        refine o_ixL (lst_of (c3.at e2 nn2.1.symm)) (atI_nat (j := j) (v := .str (SG.getD j "")) (by rw [show ([V.str "<", V.str "<=", V.str ">", V.str ">=", V.str "==", V.str "!="] : List V) = SG.map V.str from rfl, List.getElem?_map, List.getD_eq_getElem?_getD, List.getElem?_eq_getElem (by exact hj)]; rfl)) ?_
        have k3 : Keep h H H3 := (c1.keep.trans s2.keep).trans c3.keep
        walk_at "ss"
        refine ⟨h, d, a, ns, rfl, hh3, k3 _ _ na ea, hl, fun v4 H4 e4 k4 hh4 t4 g4 => ?_⟩
        walk_at "ss"
        have k4' := k3.trans k4
        refine ⟨h, d, a, ns, rfl, hh4, k4' _ _ na ea, hl, fun v5 H5 e5 k5 hh5 t5 g5 => ?_⟩
        walk_at "ss"
        refine n_obj (lz (by simp)) fun p6 H6 n6 s6 e6 => ?_
        refine q _ H6 (.cmp j e4 e5) ((k4'.trans k5).trans s6.keep) (hh5.same s6) ?_ ?_
        · rw [Cn.d]
          exact .tup e6 (.cons (.str _) (.cons (.str _) (.cons ((t4.tk (hh4.keep_tk k5)).tk s6.tk) (.cons (t5.tk s6.tk) .nil))))
        · cases n <;> (simp only [Cn.ok]; exact ⟨hj, g4, g5⟩)
      walk_at "ss"
      refine ite2 (fun e3 => ?_) (fun e3 => ?_)
      · walk_at "ss"
        refine ite2 (fun e4 => ?_) (fun e4 => ?_)
        · walk_at "ss"
          refine n_obj (lz (by simp)) fun p2 H2 n2 s2 e2 => ?_
          have nn2 := hh1.new n2
          walk_at "ss"
          refine ⟨h, d, _, rfl, hh1.same s2, by omega, fun r3 H3 r4 r5 c3 hh3 => ?_⟩
          obtain ⟨j, hj⟩ : ∃ j : Nat, r3 = (j : Int) := ⟨r3.toNat, by omega⟩
          subst hj
          have hj : j < 6 := by omega
          walk_at "ss"
          refine o_ixL (lst_of (c3.at e2 nn2.1.symm)) (atI_nat (j := j) (v := .str (SG.getD j "")) (by rw [show ([V.str "<", V.str "<=", V.str ">", V.str ">=", V.str "==", V.str "!="] : List V) = SG.map V.str from rfl, List.getElem?_map, List.getD_eq_getElem?_getD, List.getElem?_eq_getElem (by exact hj)]; rfl)) ?_
          have k3 : Keep h H H3 := (c1.keep.trans s2.keep).trans c3.keep
          walk_at "ss"
          refine ⟨h, d, a, ns, rfl, hh3, k3 _ _ na ea, hl, fun v4 H4 e4 k4 hh4 t4 g4 => ?_⟩
          walk_at "ss"
          have k4' := k3.trans k4
          refine ⟨h, d, a, ns, rfl, hh4, k4' _ _ na ea, hl, fun v5 H5 e5 k5 hh5 t5 g5 => ?_⟩
          walk_at "ss"
          refine n_obj (lz (by simp)) fun p6 H6 n6 s6 e6 => ?_
          refine q _ H6 (.cmp j e4 e5) ((k4'.trans k5).trans s6.keep) (hh5.same s6) ?_ ?_
          · rw [Cn.d]
            exact .tup e6 (.cons (.str _) (.cons (.str _) (.cons ((t4.tk (hh4.keep_tk k5)).tk s6.tk) (.cons (t5.tk s6.tk) .nil))))
          · cases n <;> (simp only [Cn.ok]; exact ⟨hj, g4, g5⟩)
        · have e3 := of_decide_eq_true e3
          have e4 : 2 ≤ z := by
            refine Decidable.byContradiction fun h => e4 (decide_eq_true ?_)
            omega
          walk_at "ss"
          refine ite2 (fun e5 => ?_) (fun e5 => ?_)
          · have e5 := of_decide_eq_true e5
            omega
          walk_at "ss"
          refine ⟨h, d, _, rfl, hh1, by omega, fun r5 H5 r6 r7 c5 hh5 => ?_⟩
          walk_at "ss"
          obtain ⟨mm, hmm⟩ : ∃ mm : Int, mm = 2 + r5 / 3 := ⟨_, rfl⟩
          rw [← hmm]
          have m1 : 2 ≤ mm := by omega
          have m2 : mm ≤ 302 := by omega
          have zz : z / mm ≤ 300 := Int.le_trans (Int.ediv_le_self _ (by omega)) hz
          have k5 := c1.keep.trans c5.keep
          have ea5 := k5 _ _ na ea
          refine k_r1 (by omega) (by omega) ?_
          refine c_range (fun D i H4 => ∃ us cs, H4 D = some (.lst us) ∧ TpAll H4 us (Cn.ds ns cs) ∧ us.length = i ∧ Cn.oks n cs ∧ Keep h H H4 ∧ HandAt H4 h d) (fun D H4 nD s4 e4 => ⟨[], [], e4, .nil, rfl, True.intro, k5.trans s4.keep, hh5.same s4⟩) (fun D i H4 hi nD p => ?_) (fun D H4 nD p => ?_)
          · obtain ⟨us, cs, e4, t4, lu, g4, k4, hh4⟩ := p
            have nn := hh5.new nD
            walk_at "ss"
            refine ⟨rfl, ?_⟩
            walk_at "ss"
            refine iteT ?_
            walk_at "ss"
            refine ⟨h, d, a, ns, n, z / mm, by rw [show ((n + 1 : Nat) : Int) - 1 = n by omega]; rfl, hh4, k4 _ _ na ea, hl, by omega, zz, fun v6 H6 c6 k6 hh6 t6 g6 => ?_⟩
            have e6 := k6 _ _ nn.1.symm e4
            refine c_out e6 (by rw [lu]; exact small1000' (by omega)) fun H7 c7 e7 => ⟨us ++ [v6], cs ++ [c6], e7, ?_, by rw [List.length_append, lu]; rfl, Cn.oks_snoc g4 g6, (k4.trans k6).chg c7 (k5.free nD nn.1.symm), hh6.chg c7 nn.1 nn.2⟩
            rw [Cn.ds_snoc]
            exact tpSnoc ((t4.tk (hh4.keep_tk k6)).tk (c7.tk e6)) (t6.tk (c7.tk e6))
          · obtain ⟨us, cs, e4, t4, lu, g4, k4, hh4⟩ := p
            have nn := hh5.new nD
            walk_at "ss"
            refine n_obj (lz (by simp)) fun p6 H6 n6 s6 e6 => ?_
            have nn6 := hh4.new n6
            walk_at "ss"
            refine ⟨h, d, _, rfl, hh4.same s6, by omega, fun r8 H8 r9 r10 c8 hh8 => ?_⟩
            obtain ⟨j, hj⟩ : ∃ j : Nat, r8 = (j : Int) := ⟨r8.toNat, by omega⟩
            subst hj
            obtain ⟨o, go⟩ : ∃ o : Bool, [V.str "and", V.str "or"][j]? = some (.str (jw o)) := by
              have hj : j < 2 := by omega
              match j, hj with
              | 0, _ => exact ⟨false, rfl⟩
              | 1, _ => exact ⟨true, rfl⟩
            walk_at "ss"
            refine o_ixL (lst_of (c8.at e6 nn6.1.symm)) (atI_nat go) ?_
            walk_at "ss"
            refine b_tup (lst_of (c8.at (s6 _ _ e4) nn.1.symm)) fun p9 H9 n9 s9 e9 => ?_
            walk_at "ss"
            refine n_obj (lz (by simp)) fun p10 H10 n10 s10 e10 => ?_
            refine q _ H10 (.jn o cs) ((((k4.trans s6.keep).trans c8.keep).trans s9.keep).trans s10.keep) ((hh8.same s9).same s10) ?_ ?_
            · rw [Cn.d]
              exact .tup e10 (.cons (.str _) (.cons (.tup (s10 _ _ e9) ((((t4.tk s6.tk).tk ((hh4.same s6).chg_tk c8)).tk s9.tk).tk s10.tk)) .nil))
            · simp only [Cn.ok]
              exact g4
      · have e3 : ¬ r > 2 := fun h => e3 (decide_eq_true h)
        refine iteF ?_
        walk_at "ss"
        refine ite2 (fun e5 => ?_) (fun e5 => ?_)
        · walk_at "ss"
          refine ⟨h, d, a, ns, n, z, by rw [show ((n + 1 : Nat) : Int) - 1 = n by omega]; rfl, hh1, c1.at ea na, hl, by omega, hz, fun v6 H6 c6 k6 hh6 t6 g6 => ?_⟩
          walk_at "ss"
          refine n_obj (lz (by simp)) fun p7 H7 n7 s7 e7 => ?_
          refine q _ H7 (.no c6) ((c1.keep.trans k6).trans s7.keep) (hh6.same s7) ?_ ?_
          · rw [Cn.d]
            exact .tup e7 (.cons (.str _) (.cons (t6.tk s7.tk) .nil))
          · simp only [Cn.ok]
            exact g6
        · exact absurd (decide_eq_true (by omega)) e5
end
end K09
namespace K09
open PySem PySem.Spec PyProof.Rows L2 Wy WD

-- REC value_of 2
-- REC _law_value 2
-- DICTS variables found kept other
section
variable {P : Program} {w : World} {K : PySem.W.Frag} {mg : Str → Option Value} {base : Heap}
/-! ### ints and texts in lists -/
theorem can_ints : ∀ xs : List Int, PyData.canLayAll0 (xs.map PyData.int) = true
  | [] => rfl
  | x :: xs => by
    rw [List.map_cons, PyData.canLayAll0, can_ints xs]
    rfl
theorem can_strs : ∀ xs : List Str, (∀ x ∈ xs, PySem.PyData.strOk x = true) → PyData.canLayAll0 (xs.map PyData.str) = true
  | [], _ => rfl
  | x :: xs, h => by
    rw [List.map_cons, PyData.canLayAll0, can_strs xs fun y hy => h y (List.mem_cons_of_mem _ hy), Bool.and_true, PyData.canLay0]
    exact h x (List.mem_cons_self ..)
theorem names_strOk : ∀ i, i < 6 → ∀ x ∈ WD.namesOf i, PySem.PyData.strOk x = true := by decide +kernel
theorem names_all {ns : List Str} (h : NamesOk ns) (hl : ns.length = 6) : ∀ x ∈ ns, PySem.PyData.strOk x = true := by
  intro x hx
  obtain ⟨i, hi, e⟩ := List.getElem_of_mem hx
  exact names_strOk i (by omega) x (h i x (by rw [← e]; exact List.getElem?_eq_getElem hi))
theorem dep_ints : ∀ xs : List Int, PyData.depthAll (xs.map PyData.int) ≤ 1
  | [] => by simp [PyData.depthAll]
  | x :: xs => by
    have := dep_ints xs
    rw [List.map_cons, PyData.depthAll, PyData.depth]
    omega
theorem dep_strs : ∀ xs : List Str, PyData.depthAll (xs.map PyData.str) ≤ 1
  | [] => by simp [PyData.depthAll]
  | x :: xs => by
    have := dep_strs xs
    rw [List.map_cons, PyData.depthAll, PyData.depth]
    omega
theorem lay_ints (xs : List Int) : (PyData.list (xs.map PyData.int)).canLay0 = true := by
  rw [PyData.canLay0]
  exact can_ints xs
theorem lay_strs (xs : List Str) (h : ∀ x ∈ xs, PySem.PyData.strOk x = true) : (PyData.list (xs.map PyData.str)).canLay0 = true := by
  rw [PyData.canLay0]
  exact can_strs xs h
theorem shp_ints (xs : List Int) : SeqAt.shaped (PyData.list (xs.map PyData.int)) = true := by
  have := dep_ints xs
  unfold SeqAt.shaped
  rw [lay_ints, PyData.depth]
  exact decide_eq_true (by omega)
theorem shp_strs (xs : List Str) (h : ∀ x ∈ xs, PySem.PyData.strOk x = true) : SeqAt.shaped (PyData.list (xs.map PyData.str)) = true := by
  have := dep_strs xs
  unfold SeqAt.shaped
  rw [lay_strs xs h, PyData.depth]
  exact decide_eq_true (by omega)
theorem dps_ints {K : PySem.W.Frag} {H : Hp} : ∀ xs : List Int, DpAll K H (xs.map V.int) (xs.map PyData.int)
  | [] => .nil
  | x :: xs => .cons (.int x) (dps_ints xs)
theorem dps_strs {K : PySem.W.Frag} {H : Hp} : ∀ xs : List Str, DpAll K H (xs.map V.str) (xs.map PyData.str)
  | [] => .nil
  | x :: xs => .cons (.str x) (dps_strs xs)
theorem ne_ints {K : PySem.W.Frag} {H : Hp} {Q : VK} {a b : Addr} {xs : List Int} (ea : H a = some (.lst (xs.map V.int))) (eb : H b = some (.lst (xs.map V.int))) (h : Q (.bl false) H) : rNe2 K (.ref a) (.ref b) H Q := by
  refine o_neD (.lst (lst_of ea) (dps_ints xs)) (.lst (lst_of eb) (dps_ints xs)) (shp_ints xs) (shp_ints xs) ?_
  rw [SeqAt.eqv_refl _ (lay_ints xs)]
  exact h
theorem ne_strs {K : PySem.W.Frag} {H : Hp} {Q : VK} {a b : Addr} {xs : List Str} (ok : ∀ x ∈ xs, PySem.PyData.strOk x = true) (ea : H a = some (.lst (xs.map V.str))) (eb : H b = some (.lst (xs.map V.str))) (h : Q (.bl false) H) : rNe2 K (.ref a) (.ref b) H Q := by
  refine o_neD (.lst (lst_of ea) (dps_strs xs)) (.lst (lst_of eb) (dps_strs xs)) (shp_strs xs ok) (shp_strs xs ok) ?_
  rw [SeqAt.eqv_refl _ (lay_strs xs ok)]
  exact h
/-! ### the same answers -/
def spIsVal : Sp := fun vs H Q _ => ∃ o : Option Int, vs = [oI o, oI o] ∧ Q (.bl true) H
theorem k_law_is_value (T : Tx K mg) : C8.Cal P w K mg base 1 "_law_is_value" spIsVal [] := by
  refine cal_of (N := n_law_is_value) T.d_law_is_value sc_law_is_value (fun _ _ F => F.bindsN fun _ _ _ _ _ _ us hl => match us, hl with | [_, _], _ => rfl) (fun vs H Q E h => ?_) (fun f cdv A outer s H vs Q E hr h => ?_)
  · obtain ⟨o, rfl, _⟩ := h
    rfl
  · obtain ⟨o, rfl, q⟩ := h
    refine ⟨_, (pss_cons (ps_if (pt_cmpR op_isN2 (pv 1) pe_non (nomark _)) (pss_one (ps_ret (pe_cmpR op_isN2 (pv 0) pe_non (nomark _)))) pss_nil) (pss_one (ps_ret (pe_and (pe_callB (call_isi : CallR _ _ (rIsi K)) (by rfl) T.z_isinstance (by decide +kernel) (pa_cons (pv 0) (pa_cons (pe_bltn (v := .ty "int") (by rfl) T.z_int (by decide +kernel) rfl) pa_nil))) (pe_and (pe_not (pe_callB (call_isi : CallR _ _ (rIsi K)) (by rfl) T.z_isinstance (by decide +kernel) (pa_cons (pv 0) (pa_cons (pe_bltn (v := .ty "bool") (by rfl) T.z_bool (by decide +kernel) rfl) pa_nil)))) (pe_one (pe_cmpR (op_eq2 hr.units : OpR _ _ (rEq2 K)) (pv 0) (pv 1) (nomark _)))))))), ?_⟩
    cases o with
    | none =>
      rw [show oI none = V.non from rfl]
      walk_at "ss"
      refine iteT ?_
      walk_at "ss"
      exact q
    | some i =>
      rw [show oI (some i) = V.int i from rfl]
      walk_at "ss"
      refine iteF ?_
      walk_at "ss"
      refine b_isi (.base (.int _)) (b := true) (kit_ty (by decide +kernel)) ?_
      walk_at "ss"
      refine iteT ?_
      walk_at "ss"
      refine b_isi (.base (.int _)) (b := false) (kit_ty (by decide +kernel)) ?_
      walk_at "ss"
      refine iteT ?_
      walk_at "ss"
      refine o_eqS rfl ?_
      rw [decide_eq_true rfl]
      exact q
def spIsTr : Sp := fun vs H Q _ => ∃ o : Option Bool, vs = [oB o, oB o] ∧ Q (.bl true) H
theorem k_law_is_truth (T : Tx K mg) : C8.Cal P w K mg base 1 "_law_is_truth" spIsTr [] := by
  refine cal_of (N := n_law_is_truth) T.d_law_is_truth sc_law_is_truth (fun _ _ F => F.bindsN fun _ _ _ _ _ _ us hl => match us, hl with | [_, _], _ => rfl) (fun vs H Q E h => ?_) (fun f cdv A outer s H vs Q E hr h => ?_)
  · obtain ⟨o, rfl, _⟩ := h
    rfl
  · obtain ⟨o, rfl, q⟩ := h
    refine ⟨_, (pss_cons (ps_if (pt_cmpR op_isN2 (pv 1) pe_non (nomark _)) (pss_one (ps_ret (pe_cmpR op_isN2 (pv 0) pe_non (nomark _)))) pss_nil) (pss_one (ps_ret (pe_and (pe_callB (call_isi : CallR _ _ (rIsi K)) (by rfl) T.z_isinstance (by decide +kernel) (pa_cons (pv 0) (pa_cons (pe_bltn (v := .ty "bool") (by rfl) T.z_bool (by decide +kernel) rfl) pa_nil))) (pe_one (pe_cmpR (op_eq2 hr.units : OpR _ _ (rEq2 K)) (pv 0) (pv 1) (nomark _))))))), ?_⟩
    cases o with
    | none =>
      rw [show oB none = V.non from rfl]
      walk_at "ss"
      refine iteT ?_
      walk_at "ss"
      exact q
    | some i =>
      rw [show oB (some i) = V.bl i from rfl]
      walk_at "ss"
      refine iteF ?_
      walk_at "ss"
      refine b_isi (.base (.bl _)) (b := true) (kit_ty (by decide +kernel)) ?_
      walk_at "ss"
      refine iteT ?_
      walk_at "ss"
      refine o_eqS rfl ?_
      rw [decide_eq_true rfl]
      exact q
/-! ### a copy of the variables -/
theorem env_cell {H : Hp} {p : Addr} {ns : List Str} {is : List Int} {ls : List (List Int)} (e : EnvAt H p ns is ls) {k : Nat} (hk : k < 6) : ∃ kvs v, H p = some (.dK kvs) ∧ valV kvs (.inr (nm ns k)) = some v ∧ CellAt H is ls k v := by
  obtain ⟨h1, h2, h3, h4, vs, h5, h6, h7⟩ := e
  have g : vs[k]? = some vs[k] := List.getElem?_eq_getElem (by omega)
  exact ⟨_, _, h6, kv_get h4 (nm_at (by omega)) g, h7 k _ g⟩
theorem cell_chg {H H' : Hp} {D : Addr} {kvs : List (Key × V)} {is : List Int} {ls : List (List Int)} {j : Nat} {v : V} (s : Chg D H H') (e : H D = some (.dK kvs)) (c : CellAt H is ls j v) : CellAt H' is ls j v := by
  rcases c with c | ⟨a, xs, h1, h2, h3, h4⟩
  · exact .inl c
  · exact .inr ⟨a, xs, h1, h2, h3, s.at h4 (ne_of h4 e (by intro z; cases z))⟩
theorem cells_snoc {H : Hp} {is : List Int} {ls : List (List Int)} {vs : List V} {v : V} {i : Nat} (hl : vs.length = i) (h : ∀ j v, vs[j]? = some v → CellAt H is ls j v) (c : CellAt H is ls i v) : ∀ j u, (vs ++ [v])[j]? = some u → CellAt H is ls j u := by
  intro j u g
  by_cases hlt : j < vs.length
  · rw [List.getElem?_append_left hlt] at g
    exact h j u g
  · have hj := (List.getElem?_eq_some_iff.mp g).1
    rw [List.length_append, List.length_singleton] at hj
    have : j = vs.length := by omega
    subst this
    rw [List.getElem?_append_right (Nat.le_refl _), Nat.sub_self] at g
    cases g
    rw [hl]
    exact c
theorem set_snoc (vs : List V) (v u : V) : (vs ++ [v]).set vs.length u = vs ++ [u] := by
  rw [List.set_append_right _ _ (Nat.le_refl _), Nat.sub_self]
  rfl
def spCopied : Sp := fun vs H Q _ => ∃ (p a : Addr) (ns : List Str) (is : List Int) (ls : List (List Int)), vs = [.ref p, .ref a] ∧ EnvAt H p ns is ls ∧ H a = some (.lst (ns.map V.str)) ∧ ∀ D H', Same H H' → H D = none → EnvAt H' D ns is ls → Q (.ref D) H'
theorem k_law_copied (T : Tx K mg) : C8.Cal P w K mg base 1 "_law_copied" spCopied [] := by
  refine cal_of (N := n_law_copied) T.d_law_copied sc_law_copied (fun _ _ F => F.bindsN fun _ _ _ _ _ _ us hl => match us, hl with | [_, _], _ => rfl) (fun vs H Q E h => ?_) (fun f cdv A outer s H vs Q E hr h => ?_)
  · obtain ⟨p, a, ns, is, ls, rfl, _⟩ := h
    rfl
  · obtain ⟨p, a, ns, is, ls, rfl, env, ea, q⟩ := h
    have hln := env.2.2.1
    have hnd := env.2.2.2.1
    refine ⟨_, (pss_cons (ps_asg pe_dnewK (pg_name (i := 2) sc_law_copied.nd rfl (Or.inl rfl))) (pss_cons (ps_for PassesOwn.never rfl (pi_range1 (by rfl) T.z_range (pa_cons pe_int pa_nil)) (pg_name (i := 3) sc_law_copied.nd rfl (Or.inl rfl)) (pss_cons (ps_dput (uu hr.units) (pv 2) (pe_ix (ix_seq : IxR _ (rIx K)) (pv 1) (pv 3) (fun _ _ => rfl)) (pe_dget (uu hr.units) (pv 0) (pe_ix (ix_seq : IxR _ (rIx K)) (pv 1) (pv 3) (fun _ _ => rfl)) (fun _ _ => rfl)) rfl) (pss_one (ps_if (pt_cmpR op_gt (pv 3) pe_int (nomark _)) (pss_one (ps_dput (uu hr.units) (pv 2) (pe_ix (ix_seq : IxR _ (rIx K)) (pv 1) (pv 3) (fun _ _ => rfl)) (pe_callTy (call_lst : CallR _ _ (rLst K)) (by rfl) T.z_list (by decide +kernel) (pa_cons (pe_dget (uu hr.units) (pv 0) (pe_ix (ix_seq : IxR _ (rIx K)) (pv 1) (pv 3) (fun _ _ => rfl)) (fun _ _ => rfl)) pa_nil)) rfl)) pss_nil)))) (pss_one (ps_ret (pv 2))))), ?_⟩
    walk_at "ss"
    refine e_dnew fun D H1 nD s1 e1 => ?_
    walk_at "ss"
    refine k_r1 (by omega) (by omega) ?_
    refine f_range (fun i σ H' => ∃ y vs, σ = [some (.ref p), some (.ref a), some (.ref D), y] ∧ Same H H' ∧ H' D = some (.dK (kv ns vs)) ∧ vs.length = i ∧ ∀ j v, vs[j]? = some v → CellAt H' is ls j v) ⟨_, [], rfl, s1, by rw [e1]; unfold kv; rw [List.zip_nil_right]; rfl, rfl, fun j v g => by cases g⟩ (fun i σ H2 hi p => ?_) (fun σ H2 p => ?_)
    · obtain ⟨y, vs, rfl, s2, e2, lv, cs⟩ := p
      have hi : i < 6 := hi
      obtain ⟨kvs, v, hk, hv, cv⟩ := env_cell (env.same s2) hi
      have ea2 := s2 _ _ ea
      walk_at "ss"
      refine o_ixL (lst_of ea2) (atI_of (j := i) (by omega) (nm_item (by omega))) ?_
      refine k_d hk hv ?_
      walk_at "ss"
      refine o_ixL (lst_of ea2) (atI_of (j := i) (by omega) (nm_item (by omega))) ?_
      refine k_p e2 (by rw [kv_len (by omega), lv]; exact small1000 (by omega)) fun H3 c3 e3 => ?_
      rw [kv_new hnd (by rw [lv]; exact nm_at (by omega))] at e3
      have s3 := c3.same s2 nD
      have cs3 := cells_snoc lv (fun j v g => cell_chg c3 e2 (cs j v g)) (cell_chg c3 e2 cv)
      have cv3 := cell_chg c3 e2 cv
      walk_at "ss"
      refine ite2 (fun e => ?_) (fun e => ?_)
      · have e := of_decide_eq_true e
        rcases cv3 with ⟨x, g, _⟩ | ⟨b, xs, h1, h2, rfl, h4⟩
        · have := (List.getElem?_eq_some_iff.mp g).1
          have := env.1
          omega
        obtain ⟨kvs', hk', hv'⟩ : ∃ kvs', H3 p = some (.dK kvs') ∧ valV kvs' (.inr (nm ns i)) = some (.ref b) := by
          obtain ⟨_, _, _, _, vs0, l0, g0, _⟩ := env
          have z := s2 _ _ g0
          rw [hk] at z
          exact ⟨kvs, by rw [s3 _ _ g0]; exact z.symm, hv⟩
        have ea3 := s3 _ _ ea
        walk_at "ss"
        refine o_ixL (lst_of ea3) (atI_of (j := i) (by omega) (nm_item (by omega))) ?_
        refine k_d hk' hv' ?_
        walk_at "ss"
        refine b_lst (lst_of h4) fun p4 H4 n4 s4 e4 => ?_
        have e34 := s4 _ _ e3
        walk_at "ss"
        refine o_ixL (lst_of (s4 _ _ ea3)) (atI_of (j := i) (by omega) (nm_item (by omega))) ?_
        refine k_p e34 (by rw [kv_len (by rw [List.length_append, lv]; exact (by omega : i + 1 ≤ ns.length)), List.length_append, lv]; exact small1000 (by simp; omega)) fun H5 c5 e5 => ?_
        rw [kv_put hnd (j := i) (nm_at (by omega)) (by rw [List.length_append, lv]; exact Nat.lt_succ_self i), ← lv, set_snoc] at e5
        walk_at "ss"
        refine ⟨_, _, rfl, c5.same (s3.trans s4) nD, e5, by rw [List.length_append, lv]; rfl, cells_snoc lv (fun j v g => cell_chg c5 e34 ((cell_chg c3 e2 (cs j v g)).same s4)) ?_⟩
        exact .inr ⟨p4, xs, h1, h2, rfl, c5.at e4 (ne_of e4 e34 (by intro z; cases z))⟩
      · walk_at "ss"
        exact ⟨_, _, rfl, s3, e3, by rw [List.length_append, lv]; rfl, cs3⟩
    · obtain ⟨y, vs, rfl, s2, e2, lv, cs⟩ := p
      walk_at "ss"
      exact q D H2 s2 nD ⟨env.1, env.2.1, hln, hnd, vs, lv, e2, cs⟩
end
end K09
namespace K09
open PySem PySem.Spec PyProof.Rows L2 Wy WD

-- REC value_of 2
-- REC truth_of 5
-- REC _law_truth 5
-- REC _law_tree 5
-- REC _law_value 2
-- DICTS variables found kept other
section
variable {P : Program} {w : World} {K : PySem.W.Frag} {mg : Str → Option Value} {base : Heap}
theorem four_of {α : Type} {xs : List α} (h : xs.length = 4) : ∃ a b c d, xs = [a, b, c, d] := by
  match xs, h with
  | [a, b, c, d], _ => exact ⟨a, b, c, d, rfl⟩
theorem two_of {α : Type} {xs : List α} (h : xs.length = 2) : ∃ a b, xs = [a, b] := by
  match xs, h with
  | [a, b], _ => exact ⟨a, b, rfl⟩
theorem env_of {H : Hp} {p b c : Addr} {ns : List Str} {i0 i1 i2 i3 : Int} {xs ys : List Int} (hl : ns.length = 6) (hd : ns.Nodup) (e : H p = some (.dK (kv ns [.int i0, .int i1, .int i2, .int i3, .ref b, .ref c]))) (eb : H b = some (.lst (xs.map V.int))) (ec : H c = some (.lst (ys.map V.int))) :
    EnvAt H p ns [i0, i1, i2, i3] [xs, ys] := by
  refine ⟨rfl, rfl, hl, hd, _, rfl, e, fun j v g => ?_⟩
  match j, g with
  | 0, g => cases g; exact .inl ⟨_, rfl, rfl⟩
  | 1, g => cases g; exact .inl ⟨_, rfl, rfl⟩
  | 2, g => cases g; exact .inl ⟨_, rfl, rfl⟩
  | 3, g => cases g; exact .inl ⟨_, rfl, rfl⟩
  | 4, g => cases g; exact .inr ⟨_, _, by decide, rfl, rfl, eb⟩
  | 5, g => cases g; exact .inr ⟨_, _, by decide, rfl, rfl, ec⟩
  | j + 6, g => cases g
theorem ints_ne {H : Hp} {h d a : Addr} {xs : List Int} (x : HandAt H h d) (e : H a = some (.lst (xs.map V.int))) : a ≠ h := by
  intro z
  subst z
  obtain ⟨n, ds, h1, _⟩ := x
  rw [h1] at e
  have e := HO.lst.inj (Option.some.inj e)
  cases xs with
  | nil => cases e
  | cons x xs => cases e
theorem dict_ne {H : Hp} {h d a : Addr} {kvs : List (Key × V)} (x : HandAt H h d) (e : H a = some (.dK kvs)) : a ≠ h := by
  obtain ⟨n, ds, h1, _⟩ := x
  exact ne_of e h1 (by intro z; cases z)
theorem env_keep {H H' : Hp} {h d p : Addr} {ns : List Str} {is : List Int} {ls : List (List Int)} (x : HandAt H h d) (k : Keep h H H') (e : EnvAt H p ns is ls) : EnvAt H' p ns is ls := by
  obtain ⟨h1, h2, h3, h4, vs, h5, h6, h7⟩ := e
  refine ⟨h1, h2, h3, h4, vs, h5, k _ _ (dict_ne x h6) h6, fun j v g => ?_⟩
  rcases h7 j v g with c | ⟨a, xs, c1, c2, c3, c4⟩
  · exact .inl c
  · exact .inr ⟨a, xs, c1, c2, c3, k _ _ (ints_ne x c4) c4⟩
/-- the lists of the variables -/
def Cells (H : Hp) (bs : List Addr) (ls : List (List Int)) : Prop := ∀ (j : Nat) (b : Addr), bs[j]? = some b → ∃ xs, ls[j]? = some xs ∧ xs ≠ [] ∧ H b = some (.lst (xs.map V.int))
theorem Cells.keep {H H' : Hp} {h d : Addr} {bs : List Addr} {ls : List (List Int)} (x : HandAt H h d) (k : Keep h H H') (c : Cells H bs ls) : Cells H' bs ls := fun j b g => by
  obtain ⟨xs, c1, c2, c3⟩ := c j b g
  exact ⟨xs, c1, c2, k _ _ (ints_ne x c3) c3⟩
theorem Cells.chg {H H' : Hp} {D : Addr} {kvs : List (Key × V)} {bs : List Addr} {ls : List (List Int)} (s : Chg D H H') (e : H D = some (.dK kvs)) (c : Cells H bs ls) : Cells H' bs ls := fun j b g => by
  obtain ⟨xs, c1, c2, c3⟩ := c j b g
  exact ⟨xs, c1, c2, s.at c3 (ne_of c3 e (by intro z; cases z))⟩
theorem Cells.snoc {H : Hp} {D : Addr} {bs : List Addr} {ls : List (List Int)} {xs : List Int} (hl : bs.length = ls.length) (c : Cells H bs ls) (h0 : xs ≠ []) (h : H D = some (.lst (xs.map V.int))) : Cells H (bs ++ [D]) (ls ++ [xs]) := fun j b g => by
  by_cases hlt : j < bs.length
  · rw [List.getElem?_append_left hlt] at g
    rw [List.getElem?_append_left (by omega)]
    exact c j b g
  · have hj := (List.getElem?_eq_some_iff.mp g).1
    rw [List.length_append, List.length_singleton] at hj
    have : j = bs.length := by omega
    subst this
    rw [List.getElem?_append_right (Nat.le_refl _), Nat.sub_self] at g
    cases g
    exact ⟨xs, by rw [hl, List.getElem?_append_right (Nat.le_refl _), Nat.sub_self]; rfl, h0, h⟩
theorem Cells.fresh {H0 H : Hp} {h D : Addr} {bs : List Addr} {ls : List (List Int)} (c : Cells H bs ls) (n : H D = none) : D ∉ bs := by
  intro hm
  obtain ⟨j, hj, e⟩ := List.getElem_of_mem hm
  obtain ⟨xs, _, _, c3⟩ := c j D (by rw [← e]; exact List.getElem?_eq_getElem hj)
  rw [n] at c3
  cases c3
/-- all that stays -/
structure Fx (ns : List Str) (is : List Int) (ls : List (List Int)) (a V0 kp X : Addr) (cv : V) (c : Cn) (n : Nat) (es : List V) (H : Hp) : Prop where
  eN : H a = some (.lst (ns.map V.str))
  env : EnvAt H V0 ns is ls
  envk : EnvAt H kp ns is ls
  eX : H X = some (.lst es)
  hx : ∀ v ∈ es, ∃ e : X9, Tp H v (e.d ns) ∧ e.good
  tc : Tp H cv (c.d ns)
  ok : c.ok n
  ln : n < 5
theorem Fx.same {ns : List Str} {is : List Int} {ls : List (List Int)} {a V0 kp X : Addr} {cv : V} {c : Cn} {n : Nat} {es : List V} {H H' : Hp} (s : Same H H') (F : Fx ns is ls a V0 kp X cv c n es H) : Fx ns is ls a V0 kp X cv c n es H' where
  eN := s _ _ F.eN
  env := F.env.same s
  envk := F.envk.same s
  eX := s _ _ F.eX
  hx := fun v hv => (F.hx v hv).imp fun _ q => ⟨q.1.tk s.tk, q.2⟩
  tc := F.tc.tk s.tk
  ok := F.ok
  ln := F.ln
theorem Fx.ext {ns : List Str} {is : List Int} {ls : List (List Int)} {a V0 kp X : Addr} {cv : V} {c : Cn} {n : Nat} {es : List V} {H H' : Hp} (s : LamX.ExtN H H') (F : Fx ns is ls a V0 kp X cv c n es H) : Fx ns is ls a V0 kp X cv c n es H' where
  eN := s _ _ F.eN (by intro ps z; cases z)
  env := EnvAt.ext s F.env
  envk := EnvAt.ext s F.envk
  eX := s _ _ F.eX (by intro ps z; cases z)
  hx := fun v hv => (F.hx v hv).imp fun _ q => ⟨q.1.tk (WL.ExtN.tk s), q.2⟩
  tc := F.tc.tk (WL.ExtN.tk s)
  ok := F.ok
  ln := F.ln
def noT : HO → Bool
  | .tbl _ => false
  | .ext _ => false
  | _ => true
theorem tabs_but {T : List (Addr × Str)} {H H' : Hp} {D : Addr} {o : HO} (t : LamX.Tabs T H) (k : ∀ b o, b ≠ D → H b = some o → H' b = some o) (e : H D = some o) (n : noT o = true) : LamX.Tabs T H' := fun p hp => by
  obtain ⟨ps, h1, h2, h3⟩ := t p hp
  refine ⟨ps, k _ _ (fun z => ?_) h1, h2, fun pos cv hc => ?_⟩
  · rw [z, e] at h1
    cases h1
    cases n
  · obtain ⟨c, e1, e2⟩ := h3 pos cv hc
    refine ⟨c, e1, k _ _ (fun z => ?_) e2⟩
    rw [z, e] at e2
    cases e2
    cases n
theorem tabs_keep {T : List (Addr × Str)} {H H' : Hp} {h d : Addr} (x : HandAt H h d) (k : Keep h H H') (t : LamX.Tabs T H) : LamX.Tabs T H' := by
  obtain ⟨n, ds, e, _, _⟩ := x
  exact tabs_but t k e rfl
theorem tabs_chg {T : List (Addr × Str)} {H H' : Hp} {D : Addr} {o : HO} (c : Chg D H H') (e : H D = some o) (n : noT o = true) (t : LamX.Tabs T H) : LamX.Tabs T H' := tabs_but t (fun b o nb e => c.at e nb) e n
/-- what stands behind a question of truth -/
def SX (K : PySem.W.Frag) (H H' : Hp) : Prop := LamX.ExtN H H' ∧ LamX.Tabs (lT K) H'
theorem SX.refl {K : PySem.W.Frag} {H : Hp} (t : LamX.Tabs (lT K) H) : SX K H H := ⟨LamX.ExtN.refl H, t⟩
theorem SX.trans {K : PySem.W.Frag} {H H1 H2 : Hp} (a : SX K H H1) (b : SX K H1 H2) : SX K H H2 := ⟨a.1.trans b.1, b.2⟩
theorem SX.same {K : PySem.W.Frag} {H H1 H2 : Hp} (a : SX K H H1) (s : Same H1 H2) : SX K H H2 := ⟨a.1.trans (WL.extN_of s), a.2.ext s⟩
theorem SX.at {K : PySem.W.Frag} {H H1 : Hp} {b : Addr} {o : HO} (a : SX K H H1) (e : H b = some o) (n : noT o = true) : H1 b = some o := a.1 _ _ e (by
  intro ps z
  rw [z] at n
  cases n)
/-- the same cell twice is no other -/
theorem ne_cells {H : Hp} {Q : VK} {is : List Int} {ls : List (List Int)} {j : Nat} {x y : V} (h4 : is.length = 4) (cx : CellAt H is ls j x) (cy : CellAt H is ls j y) (h : Q (.bl false) H) : rNe2 K x y H Q := by
  rcases cx with ⟨i, g, rfl⟩ | ⟨p, xs, g1, g2, rfl, g3⟩
  · rcases cy with ⟨i', g', rfl⟩ | ⟨p, xs, g1, _⟩
    · rw [g] at g'
      cases g'
      refine o_neS rfl ?_
      rw [decide_eq_true rfl]
      exact h
    · have := (List.getElem?_eq_some_iff.mp g).1
      omega
  · rcases cy with ⟨i', g', rfl⟩ | ⟨p', xs', g1', g2', rfl, g3'⟩
    · have := (List.getElem?_eq_some_iff.mp g').1
      omega
    · rw [g2] at g2'
      cases g2'
      exact ne_ints g3 g3' h
theorem ok_law (T : Tx K mg) (TB : LamX.TabB base mg (lc_truth_of K).1 (lc_truth_of K).2) {f : Addr} {fd : FuncData} (F : FunD K "law" "law" (defArgs s_law) (defBody s_law) (defScope s_law) [] [] f fd) : FnOk P w K mg base CX0 13 f fd ["script"] (spLaw K) := by
  refine fn_of2 (N := n_law) F sc_law (fun vs H Q E h => ?_) (fun f cdv A outer s H vs Q E hr h => ?_)
  · obtain ⟨a, ns, rfl, _⟩ := h
    rfl
  · obtain ⟨a0, zs, rfl, hS, hl, hT, q⟩ := h
    refine ⟨_, (pss_cons (ps_asg (pe_lst (pa_cons (C8.pe_c (k_law_draws T) hr (by first | decide | omega) (by rfl) (pa_cons (pv 0) (pa_cons pe_int pa_nil))) (pa_cons pe_int pa_nil))) (pg_name (i := 1) sc_law.nd rfl (Or.inr rfl))) (pss_cons (ps_asg (C8.pe_c (k_law_names_of T) hr (by first | decide | omega) (by rfl) (pa_cons (pv 1) pa_nil)) (pg_name (i := 2) sc_law.nd rfl (Or.inr rfl))) (pss_cons (ps_asg pe_dnewK (pg_name (i := 3) sc_law.nd rfl (Or.inl rfl))) (pss_cons (ps_for PassesOwn.never rfl (pi_range1 (by rfl) T.z_range (pa_cons pe_int pa_nil)) (pg_name (i := 4) sc_law.nd rfl (Or.inl rfl)) (pss_one (ps_dput (uu hr.units) (pv 3) (pe_ix (ix_seq : IxR _ (rIx K)) (pv 2) (pv 4) (fun _ _ => rfl)) (C8.pe_c (k_law_some T) hr (by first | decide | omega) (by rfl) (pa_cons (pv 1) pa_nil)) rfl))) (pss_cons (ps_for PassesOwn.never rfl (pi_range2 (by rfl) T.z_range (pa_cons pe_int (pa_cons pe_int pa_nil))) (pg_name (i := 4) sc_law.nd rfl (Or.inl rfl)) (pss_one (ps_dput (uu hr.units) (pv 3) (pe_ix (ix_seq : IxR _ (rIx K)) (pv 2) (pv 4) (fun _ _ => rfl)) (pe_lc (own := [("k", 11)]) (g := gName 11) (by rfl) sc_law.nd (pi_range1 (by rfl) T.z_range (pa_cons (pe_op op_add3 pe_int (C8.pe_c (k_law_take T) hr (by first | decide | omega) (by rfl) (pa_cons (pv 1) (pa_cons pe_int pa_nil)))) pa_nil)) (blkOk_by (own := [("k", 11)]) (N := n_law) (sc := defScope s_law) (by decide +kernel)) (fun _ _ _ _ _ => pg_name (i := 11) sc_law.nd rfl (Or.inl rfl)) (fun _ _ _ _ _ => pts_nil) (fun _ _ _ _ _ => (C8.pe_c (k_law_some T) hr (by first | decide | omega) (by rfl) (pa_cons (pv 1) pa_nil)))) rfl))) (pss_cons (ps_asg (C8.pe_c (k_law_copied T) hr (by first | decide | omega) (by rfl) (pa_cons (pv 3) (pa_cons (pv 2) pa_nil))) (pg_name (i := 5) sc_law.nd rfl (Or.inl rfl))) (pss_cons (ps_setLc (i := 6) (own := [("k", 11)]) (g := gName 11) (by rfl) sc_law.nd rfl rfl (sw_true rfl rfl rfl (by decide +kernel)) (pi_range1 (by rfl) T.z_range (pa_cons pe_int pa_nil)) (blkOk_by (own := [("k", 11)]) (N := n_law) (sc := defScope s_law) (by decide +kernel)) (fun _ _ _ _ _ => pg_name (i := 11) sc_law.nd rfl (Or.inl rfl)) (fun _ _ _ _ _ => pts_nil) (fun _ _ _ _ _ => (C8.pe_c (k_law_expression T) hr (by first | decide | omega) (by rfl) (pa_cons (pv 1) (pa_cons (pv 2) pa_nil))))) (pss_cons (ps_asg (C8.pe_c (k_law_tree T 5) hr (by first | decide | omega) (by rfl) (pa_cons (pv 1) (pa_cons (pv 2) (pa_cons (C8.pe_c (k_law_take T) hr (by first | decide | omega) (by rfl) (pa_cons (pv 1) (pa_cons pe_int pa_nil))) (pa_cons pe_int pa_nil))))) (pg_name (i := 7) sc_law.nd rfl (Or.inl rfl))) (pss_cons (ps_for PassesOwn.never rfl (pi_range1 (by rfl) T.z_range (pa_cons pe_int pa_nil)) (pg_name (i := 8) sc_law.nd rfl (Or.inl rfl)) (pss_cons (ps_for PassesOwn.never rfl (pi_list (pv 6) : PI _ _ _ (iList K _)) (pg_name (i := 9) sc_law.nd rfl (Or.inl rfl)) (pss_one (ps_if (pt_not (pt_tr (C8.pe_c (k_law_is_value T) hr (by first | decide | omega) (by rfl) (pa_cons (C8.pe_c (k_value_of T 2) hr (by first | decide | omega) (by rfl) (pa_cons (pv 9) (pa_cons (pv 3) pa_nil))) (pa_cons (C8.pe_c (k_law_value T 2) hr (by first | decide | omega) (by rfl) (pa_cons (pv 9) (pa_cons (pv 5) pa_nil))) pa_nil))) : PT _ _ (tTr K _))) (pss_one (ps_ret pe_bl)) pss_nil))) (pss_cons (ps_if (pt_not (pt_tr (C8.pe_c (k_law_is_truth T) hr (by first | decide | omega) (by rfl) (pa_cons (C8.pe_c (k_truth_of T TB 5) hr (by first | decide | omega) (by rfl) (pa_cons (pv 7) (pa_cons (pv 3) pa_nil))) (pa_cons (C8.pe_c (k_law_truth T 5) hr (by first | decide | omega) (by rfl) (pa_cons (pv 7) (pa_cons (pv 5) pa_nil))) pa_nil))) : PT _ _ (tTr K _))) (pss_one (ps_ret pe_bl)) pss_nil) (pss_cons (ps_if (PW.pt (pw_or (pt_cmpR (op_ne2 hr.units : OpR _ _ (rNe2 K)) (pe_callB WD.call_lenD (by rfl) T.z_len (by decide +kernel) (pa_cons (pv 3) pa_nil)) pe_int (nomark _)) (pw_or1 (pt_cmpR (op_ne2 hr.units : OpR _ _ (rNe2 K)) (pe_callTy (call_list_dK rfl) (by rfl) T.z_list (by decide +kernel) (pa_cons (pv 3) pa_nil)) (pv 2) (nomark _))))) (pss_one (ps_ret pe_bl)) pss_nil) (pss_one (ps_for PassesOwn.never rfl (pi_range1 (by rfl) T.z_range (pa_cons pe_int pa_nil)) (pg_name (i := 4) sc_law.nd rfl (Or.inl rfl)) (pss_one (ps_if (pt_cmpR (op_ne2 hr.units : OpR _ _ (rNe2 K)) (pe_dget (uu hr.units) (pv 3) (pe_ix (ix_seq : IxR _ (rIx K)) (pv 2) (pv 4) (fun _ _ => rfl)) (fun _ _ => rfl)) (pe_dget (uu hr.units) (pv 5) (pe_ix (ix_seq : IxR _ (rIx K)) (pv 2) (pv 4) (fun _ _ => rfl)) (fun _ _ => rfl)) (nomark _)) (pss_one (ps_ret pe_bl)) pss_nil)))))))) (pss_cons (ps_asg pe_dnewK (pg_name (i := 10) sc_law.nd rfl (Or.inl rfl))) (pss_cons (ps_for PassesOwn.never rfl (pi_range1 (by rfl) T.z_range (pa_cons pe_int pa_nil)) (pg_name (i := 4) sc_law.nd rfl (Or.inl rfl)) (pss_one (ps_dput (uu hr.units) (pv 10) (pe_ix (ix_seq : IxR _ (rIx K)) (pv 2) (pv 4) (fun _ _ => rfl)) (pe_ix (ix_seq : IxR _ (rIx K)) (pe_lst (pa_cons pe_int (pa_cons (pe_lst (pa_cons pe_int pa_nil)) pa_nil))) (pe_callTy call_int2 (by rfl) T.z_int (by decide +kernel) (pa_cons (pe_cmpR op_gt (pv 4) pe_int (nomark _)) pa_nil)) (fun _ _ => rfl)) rfl))) (pss_cons (ps_if (pt_not (pt_tr (C8.pe_c (k_law_is_truth T) hr (by first | decide | omega) (by rfl) (pa_cons (C8.pe_c (k_truth_of T TB 5) hr (by first | decide | omega) (by rfl) (pa_cons (pv 7) (pa_cons (pv 10) pa_nil))) (pa_cons (C8.pe_c (k_law_truth T 5) hr (by first | decide | omega) (by rfl) (pa_cons (pv 7) (pa_cons (pv 10) pa_nil))) pa_nil))) : PT _ _ (tTr K _))) (pss_one (ps_ret pe_bl)) pss_nil) (pss_cons (ps_dput (uu hr.units) (pv 3) (pe_ix (ix_seq : IxR _ (rIx K)) (pv 2) pe_int (fun _ _ => rfl)) (pe_op op_add3 (pe_dget (uu hr.units) (pv 3) (pe_ix (ix_seq : IxR _ (rIx K)) (pv 2) pe_int (fun _ _ => rfl)) (fun _ _ => rfl)) pe_int) rfl) (pss_cons (ps_asg (pe_op op_sub (pe_ix (ix_seq : IxR _ (rIx K)) (pe_dget (uu hr.units) (pv 3) (pe_ix (ix_seq : IxR _ (rIx K)) (pv 2) pe_int (fun _ _ => rfl)) (fun _ _ => rfl)) pe_int (fun _ _ => rfl)) pe_int) (pg_sub (pe_dget (uu hr.units) (pv 3) (pe_ix (ix_seq : IxR _ (rIx K)) (pv 2) pe_int (fun _ _ => rfl)) (fun _ _ => rfl)) pe_int set_list)) (pss_cons (ps_asg (C8.pe_c (k_law_copied T) hr (by first | decide | omega) (by rfl) (pa_cons (pv 3) (pa_cons (pv 2) pa_nil))) (pg_name (i := 5) sc_law.nd rfl (Or.inl rfl))) (pss_cons (ps_for PassesOwn.never rfl (pi_list (pv 6) : PI _ _ _ (iList K _)) (pg_name (i := 9) sc_law.nd rfl (Or.inl rfl)) (pss_one (ps_if (pt_not (pt_tr (C8.pe_c (k_law_is_value T) hr (by first | decide | omega) (by rfl) (pa_cons (C8.pe_c (k_value_of T 2) hr (by first | decide | omega) (by rfl) (pa_cons (pv 9) (pa_cons (pv 3) pa_nil))) (pa_cons (C8.pe_c (k_law_value T 2) hr (by first | decide | omega) (by rfl) (pa_cons (pv 9) (pa_cons (pv 5) pa_nil))) pa_nil))) : PT _ _ (tTr K _))) (pss_one (ps_ret pe_bl)) pss_nil))) (pss_one (ps_ret (C8.pe_c (k_law_is_truth T) hr (by first | decide | omega) (by rfl) (pa_cons (C8.pe_c (k_truth_of T TB 5) hr (by first | decide | omega) (by rfl) (pa_cons (pv 7) (pa_cons (pv 3) pa_nil))) (pa_cons (C8.pe_c (k_law_truth T 5) hr (by first | decide | omega) (by rfl) (pa_cons (pv 7) (pa_cons (pv 5) pa_nil))) pa_nil))))))))))))))))))))), ?_⟩
    walk_at "ss"
    refine ⟨a0, zs, 160, rfl, hS, hl, by omega, by omega, fun d H1 ds s1 nd e1 => ?_⟩
    walk_at "ss"
    refine n_obj (lz (by simp)) fun h H2 nh s2 e2 => ?_
    have hh2 : HandAt H2 h d := ⟨0, ds, e2, Int.le_refl 0, s2 _ _ e1⟩
    walk_at "ss"
    refine ⟨h, d, rfl, hh2, fun a H3 ns k3 hh3 na ea hln hnm => ?_⟩
    have hnd := names_nodup hnm (by omega)
    walk_at "ss"
    refine e_dnew fun V0 H4 nV s4 eV => ?_
    have nnV := hh3.new nV
    have ea4 := s4 _ _ ea
    have hh4 := hh3.same s4
    have nah := names_ne hh4 ea4
    walk_at "ss"
    refine k_r1 (by omega) (by omega) ?_
    refine f_range (fun i σ H' => ∃ y, ∃ is : List Int, σ = [some (.ref a0), some (.ref h), some (.ref a), some (.ref V0), y, none, none, none, none, none, none, none] ∧ Keep h H3 H' ∧ HandAt H' h d ∧ H' V0 = some (.dK (kv ns (is.map V.int))) ∧ is.length = i)
      ⟨_, [], rfl, s4.keep, hh4, by rw [eV]; unfold kv; rw [List.map_nil, List.zip_nil_right]; rfl, rfl⟩ (fun i σ H5 hi p => ?_) (fun σ H5 p => ?_)
    · obtain ⟨y, is, rfl, k5, hh5, e5, l5⟩ := p
      have hi : i < 4 := hi
      walk_at "ss"
      refine ⟨h, d, rfl, hh5, fun r H6 k6 hh6 => ?_⟩
      have k56 := k5.trans k6
      have e6 := k6.at e5 nnV.1.symm
      walk_at "ss"
      refine o_ixL (lst_of (k56.at ea nah)) (atI_of (j := i) (by omega) (nm_item (by omega))) ?_
      refine k_p e6 (by rw [kv_len (by rw [List.length_map]; omega), List.length_map, l5]; exact small1000 (by omega)) fun H7 c7 e7 => ?_
      rw [kv_new hnd (by rw [List.length_map, l5]; exact nm_at (by omega))] at e7
      refine ⟨_, is ++ [r], rfl, k56.chg c7 nV, hh6.chg c7 nnV.1 nnV.2, by rw [e7, List.map_append]; rfl, by rw [List.length_append, l5]; rfl⟩
    · obtain ⟨y, is, rfl, k5, hh5, e5, l5⟩ := p
      have l5 : is.length = 4 := l5
      walk_at "ss"
      refine k_r2 (by omega) ?_
      refine f_range (fun i σ H' => ∃ y, ∃ (bs : List Addr) (ls : List (List Int)), σ = [some (.ref a0), some (.ref h), some (.ref a), some (.ref V0), y, none, none, none, none, none, none, none] ∧ Keep h H3 H' ∧ HandAt H' h d ∧
        H' V0 = some (.dK (kv ns (is.map V.int ++ bs.map V.ref))) ∧ bs.length = i ∧ ls.length = i ∧ Cells H' bs ls ∧ bs.Nodup)
        ⟨_, [], [], rfl, k5, hh5, by rw [e5, List.map_nil, List.append_nil], rfl, rfl, (fun j b g => by cases g), List.nodup_nil⟩ (fun i σ H6 hi p => ?_) (fun σ H6 p => ?_)
      · obtain ⟨y, bs, ls, rfl, k6, hh6, e6, lb, ll, cl, nb⟩ := p
        have hi : i < 2 := hi
        walk_at "ss"
        refine ⟨h, d, _, rfl, hh6, by omega, fun r H7 r0 r1 c7 hh7 => ?_⟩
        walk_at "ss"
        refine k_r1 (by omega) (by omega) ?_
        refine c_range (fun D i H' => ∃ rs : List Int, H' D = some (.lst (rs.map V.int)) ∧ rs.length = i ∧ Keep h H7 H' ∧ HandAt H' h d) (fun D H8 nD s8 e8 => ⟨[], e8, rfl, s8.keep, hh7.same s8⟩) (fun D i H8 hi nD p => ?_) (fun D H8 nD p => ?_)
        · obtain ⟨rs, e8, lr, k8, hh8⟩ := p
          have nn := hh7.new nD
          walk_at "ss"
          refine ⟨rfl, ?_⟩
          walk_at "ss"
          refine iteT ?_
          walk_at "ss"
          refine ⟨h, d, rfl, hh8, fun r9 H9 k9 hh9 => ?_⟩
          refine c_out (k9.at e8 nn.1.symm) (by rw [List.length_map, lr]; exact small1000' (by omega)) fun H10 c10 e10 => ⟨rs ++ [r9], by rw [e10, List.map_append]; rfl, by rw [List.length_append, lr]; rfl, (k8.trans k9).chg c10 nD, hh9.chg c10 nn.1 nn.2⟩
        · obtain ⟨rs, e8, lr, k8, hh8⟩ := p
          have k68 := c7.keep.trans k8
          have k38 := k6.trans k68
          have e8' := k68.at e6 nnV.1.symm
          have cl8 := cl.keep hh6 k68
          have lv : (is.map V.int ++ bs.map V.ref).length = 4 + i := by rw [List.length_append, List.length_map, List.length_map, l5, lb]
          walk_at "ss"
          refine o_ixL (lst_of (k38.at ea nah)) (atI_of (j := 4 + i) (by omega) (nm_item (by omega))) ?_
          refine k_p e8' (by rw [kv_len (by omega), lv]; exact small1000 (by omega)) fun H9 c9 e9 => ?_
          rw [kv_new hnd (by rw [lv]; exact nm_at (by omega))] at e9
          have nD6 : D ∉ bs := Cells.fresh (H0 := H7) (h := h) (cl.keep hh6 c7.keep) nD
          refine ⟨_, bs ++ [D], ls ++ [rs], rfl, k38.chg c9 nV, hh8.chg c9 nnV.1 nnV.2, by rw [e9, List.map_append, List.append_assoc]; rfl, by rw [List.length_append, lb]; rfl, by rw [List.length_append, ll]; rfl, (cl8.snoc (by omega) ?_ e8).chg c9 e8', ?_⟩
          · intro z
            rw [z] at lr
            have lr : (0 : Nat) = (1 + r).toNat := lr
            omega
          · rw [List.nodup_append]
            exact ⟨nb, by simp, fun x hx y hy => by
              have : y = D := by simpa using hy
              intro z
              rw [z, this] at hx
              exact nD6 hx⟩
      · obtain ⟨y, bs, ls, rfl, k6, hh6, e6, lb, ll, cl, nb⟩ := p
        have lb : bs.length = 2 := lb
        have ll : ls.length = 2 := ll
        obtain ⟨i0, i1, i2, i3, rfl⟩ := four_of l5
        obtain ⟨b, c, rfl⟩ := two_of lb
        obtain ⟨xs, ys, rfl⟩ := two_of ll
        have e6 : H6 V0 = some (.dK (kv ns [.int i0, .int i1, .int i2, .int i3, .ref b, .ref c])) := e6
        obtain ⟨xs', x1, x0, eb⟩ := cl 0 b rfl
        cases x1
        obtain ⟨ys', y1, y0, ec⟩ := cl 1 c rfl
        cases y1
        have nbc : b ≠ c := by
          intro z
          subst z
          simp at nb
        obtain ⟨u0, us, rfl⟩ : ∃ u us, xs = u :: us := List.exists_cons_of_ne_nil x0
        have env6 := env_of hln hnd e6 eb ec
        have ea6 := k6.at ea nah
        walk_at "ss"
        refine ⟨V0, a, ns, _, _, rfl, env6, ea6, fun kp H7 s7 n7 envk => ?_⟩
        have hh7 := hh6.same s7
        walk_at "ss"
        refine k_r1 (by omega) (by omega) ?_
        refine c_range (fun D i H' => ∃ es, H' D = some (.lst es) ∧ es.length = i ∧ (∀ v ∈ es, ∃ e : X9, Tp H' v (e.d ns) ∧ e.good) ∧ Keep h H7 H' ∧ HandAt H' h d) (fun D H8 nD s8 e8 => ⟨[], e8, rfl, by simp, s8.keep, hh7.same s8⟩) (fun D i H8 hi nD p => ?_) (fun X H8 nX p => ?_)
        · obtain ⟨es, e8, le, he, k8, hh8⟩ := p
          have nn := hh7.new nD
          walk_at "ss"
          refine ⟨rfl, ?_⟩
          walk_at "ss"
          refine iteT ?_
          walk_at "ss"
          refine ⟨h, d, a, ns, rfl, hh8, k8 _ _ nah (s7 _ _ ea6), hln, fun v9 H9 x9 k9 hh9 t9 g9 => ?_⟩
          have e9 := k9.at e8 nn.1.symm
          refine c_out e9 (by rw [le]; exact small1000' (by omega)) fun H10 c10 e10 => ⟨es ++ [v9], e10, by rw [List.length_append, le]; rfl, fun v hv => ?_, (k8.trans k9).chg c10 nD, hh9.chg c10 nn.1 nn.2⟩
          rcases List.mem_append.mp hv with hv | hv
          · obtain ⟨e, te, ge⟩ := he v hv
            exact ⟨e, (te.tk (hh8.keep_tk k9)).tk (c10.tk e9), ge⟩
          · have : v = v9 := by simpa using hv
            subst this
            exact ⟨x9, t9.tk (c10.tk e9), g9⟩
        · obtain ⟨es, e8, le, he, k8, hh8⟩ := p
          have nn := hh7.new nX
          walk_at "ss"
          refine ⟨h, d, _, rfl, hh8, by omega, fun r H9 r0 r1 c9 hh9 => ?_⟩
          obtain ⟨n, hn⟩ : ∃ n : Nat, r = (n : Int) := ⟨r.toNat, by omega⟩
          subst hn
          have k9 := k8.trans c9.keep
          walk_at "ss"
          refine ⟨h, d, a, ns, n, 6, rfl, hh9, k9 _ _ nah (s7 _ _ ea6), hln, by omega, by omega, fun cv H10 cc k10 hh10 tc gc => ?_⟩
          have kk := k9.trans k10
          have k810 := c9.keep.trans k10
          have F : Fx ns [i0, i1, i2, i3] [u0 :: us, ys] a V0 kp X cv cc n es H10 := ⟨kk _ _ nah (s7 _ _ ea6), env_keep hh7 kk (env6.same s7), env_keep hh7 kk envk, k810.at e8 nn.1.symm, fun v hv => (he v hv).imp fun _ q => ⟨q.1.tk (hh8.keep_tk k810), q.2⟩, tc, gc, by omega⟩
          have T10 : LamX.Tabs (lT K) H10 := tabs_keep hh7 kk ((tabs_keep hh3 k6 (tabs_keep hh2 k3 (hT.ext (s1.trans s2)))).ext s7)
          have eV := kk _ _ nnV.1.symm (s7 _ _ e6)
          have eb := kk _ _ (ints_ne hh7 (s7 _ _ eb)) (s7 _ _ eb)
          have ec := kk _ _ (ints_ne hh7 (s7 _ _ ec)) (s7 _ _ ec)
          walk_at "ss"
          refine k_r1 (by omega) (by omega) ?_
          refine f_range (fun i σ H' => ∃ y4 y8 y9, σ = [some (.ref a0), some (.ref h), some (.ref a), some (.ref V0), y4, some (.ref kp), some (.ref X), some cv, y8, y9, none, none] ∧ SX K H10 H') ⟨_, _, _, rfl, SX.refl T10⟩ (fun i σ H11 hi p => ?_) (fun σ H11 p => ?_)
          · obtain ⟨y4, y8, y9, rfl, s11⟩ := p
            walk_at "ss"
            refine k_l (lst_of (s11.at F.eX rfl)) ?_
            refine f_list (xs := es) (fun j σ H' => ∃ y9, σ = [some (.ref a0), some (.ref h), some (.ref a), some (.ref V0), y4, some (.ref kp), some (.ref X), some cv, some (.int (0 + (i : Int))), y9, none, none] ∧ SX K H10 H') ⟨_, rfl, s11⟩ (fun j σ H' hj p => lst_of (p.choose_spec.2.at F.eX rfl)) (fun j x σ H12 hx p => ?_) (fun σ H12 p => ?_)
            · obtain ⟨y9, rfl, s12⟩ := p
              obtain ⟨e, te, ge⟩ := F.hx x (List.mem_of_getElem? hx)
              have G := F.ext s12.1
              walk_at "ss"
              refine ⟨x, V0, ns, _, _, e, rfl, te.tk (WL.ExtN.tk s12.1), G.env, ge, e.dep_le, ?_⟩
              walk_at "ss"
              refine ⟨x, kp, ns, _, _, e, rfl, te.tk (WL.ExtN.tk s12.1), G.envk, ge, e.dep_le, ?_⟩
              walk_at "ss"
              refine ⟨_, rfl, ?_⟩
              walk_at "ss"
              refine iteF ?_
              walk_at "ss"
              exact ⟨_, rfl, s12⟩
            · obtain ⟨y9, rfl, s12⟩ := p
              have G := F.ext s12.1
              walk_at "ss"
              refine ⟨cv, V0, ns, _, _, cc, n, rfl, G.tc, G.env, G.ln, G.ok, s12.2, fun Ha ea ta => ?_⟩
              have s12 := s12.trans ⟨ea, ta⟩
              have G := F.ext s12.1
              walk_at "ss"
              refine ⟨cv, kp, ns, _, _, cc, n, rfl, G.tc, G.envk, G.ln, G.ok, fun H13 s13 => ?_⟩
              have s13 := s12.same s13
              walk_at "ss"
              refine ⟨_, rfl, ?_⟩
              walk_at "ss"
              refine iteF ?_
              walk_at "ss"
              refine b_lenD (s13.at eV rfl) ?_
              rw [kv_len (by rw [hln]; exact Nat.le_refl 6)]
              walk_at "ss"
              refine o_neS rfl ?_
              walk_at "ss"
              refine iteF ?_
              walk_at "ss"
              refine b_lstD (s13.at eV rfl) fun p14 H14 n14 s14 e14 => ?_
              rw [kv_keys (by rw [hln]; rfl)] at e14
              walk_at "ss"
              refine ne_strs (names_all hnm hln) e14 (s14 _ _ (s13.at F.eN rfl)) ?_
              walk_at "ss"
              refine iteF ?_
              walk_at "ss"
              refine k_r1 (by omega) (by omega) ?_
              refine f_range (fun m σ H' => ∃ y4, σ = [some (.ref a0), some (.ref h), some (.ref a), some (.ref V0), y4, some (.ref kp), some (.ref X), some cv, some (.int (0 + (i : Int))), y9, none, none] ∧ SX K H10 H') ⟨_, rfl, s13.same s14⟩ (fun m σ H15 hm p => ?_) (fun σ H15 p => ?_)
              · obtain ⟨y4, rfl, s15⟩ := p
                have hm : m < 6 := hm
                have G := F.ext s15.1
                obtain ⟨kvs, v, f1, f2, f3⟩ := env_cell G.env hm
                obtain ⟨kvs', v', f1', f2', f3'⟩ := env_cell G.envk hm
                walk_at "ss"
                refine o_ixL (lst_of G.eN) (atI_of (j := m) (by omega) (nm_item (by omega))) ?_
                refine k_d f1 f2 ?_
                walk_at "ss"
                refine o_ixL (lst_of G.eN) (atI_of (j := m) (by omega) (nm_item (by omega))) ?_
                refine k_d f1' f2' ?_
                refine ne_cells rfl f3 f3' ?_
                walk_at "ss"
                refine iteF ?_
                walk_at "ss"
                exact ⟨_, rfl, s15⟩
              · obtain ⟨y4, rfl, s15⟩ := p
                exact ⟨_, _, _, rfl, s15⟩
          · obtain ⟨y4, y8, y9, rfl, s11⟩ := p
            walk_at "ss"
            refine e_dnew fun O H12 nO s12 e12 => ?_
            walk_at "ss"
            refine k_r1 (by omega) (by omega) ?_
            refine f_range (fun i σ H' => ∃ y4 vs, σ = [some (.ref a0), some (.ref h), some (.ref a), some (.ref V0), y4, some (.ref kp), some (.ref X), some cv, y8, y9, some (.ref O), none] ∧ Same H11 H' ∧ H' O = some (.dK (kv ns vs)) ∧ vs.length = i ∧ ∀ j v, vs[j]? = some v → CellAt H' [7, 7, 7, 7] [[7], [7]] j v) ⟨_, [], rfl, s12, by rw [e12]; unfold kv; rw [List.zip_nil_right]; rfl, rfl, fun j v g => by cases g⟩ (fun i σ H13 hi p => ?_) (fun σ H13 p => ?_)
            · obtain ⟨y4, vs, rfl, s13, e13, lv, cs⟩ := p
              have hi : i < 6 := hi
              have ea13 := s13 _ _ (s11.at F.eN rfl)
              walk_at "ss"
              refine n_obj (lz (by simp)) fun p14 H14 n14 s14 e14 => ?_
              walk_at "ss"
              refine n_obj (lz (by simp)) fun p15 H15 n15 s15 e15 => ?_
              have s1315 := s14.trans s15
              have e15' := s1315 _ _ e13
              walk_at "ss"
              by_cases hgt : i > 3
              · rw [decide_eq_true (by omega)]
                refine o_ixL (lst_of e15) (atI_nat (j := 1) rfl) ?_
                walk_at "ss"
                refine o_ixL (lst_of (s1315 _ _ ea13)) (atI_of (j := i) (by omega) (nm_item (by omega))) ?_
                refine k_p e15' (by rw [kv_len (by omega), lv]; exact small1000 (by omega)) fun H16 c16 e16 => ?_
                rw [kv_new hnd (by rw [lv]; exact nm_at (by omega))] at e16
                refine ⟨_, _, rfl, c16.same (s13.trans s1315) nO, e16, by rw [List.length_append, lv]; rfl, cells_snoc lv (fun j v g => cell_chg c16 e15' ((cs j v g).same s1315)) ?_⟩
                refine .inr ⟨p14, [7], by omega, ?_, rfl, c16.at (s15 _ _ e14) (ne_of (s15 _ _ e14) e15' (by intro z; cases z))⟩
                have hi2 : i = 4 ∨ i = 5 := by omega
                rcases hi2 with rfl | rfl <;> rfl
              · rw [decide_eq_false (by omega)]
                refine o_ixL (lst_of e15) (atI_nat (j := 0) rfl) ?_
                walk_at "ss"
                refine o_ixL (lst_of (s1315 _ _ ea13)) (atI_of (j := i) (by omega) (nm_item (by omega))) ?_
                refine k_p e15' (by rw [kv_len (by omega), lv]; exact small1000 (by omega)) fun H16 c16 e16 => ?_
                rw [kv_new hnd (by rw [lv]; exact nm_at (by omega))] at e16
                refine ⟨_, _, rfl, c16.same (s13.trans s1315) nO, e16, by rw [List.length_append, lv]; rfl, cells_snoc lv (fun j v g => cell_chg c16 e15' ((cs j v g).same s1315)) ?_⟩
                refine .inl ⟨7, ?_, rfl⟩
                have hi2 : i = 0 ∨ i = 1 ∨ i = 2 ∨ i = 3 := by omega
                rcases hi2 with rfl | rfl | rfl | rfl <;> rfl
            · obtain ⟨y4, vs, rfl, s13, e13, lv, cs⟩ := p
              have envo : EnvAt H13 O ns [7, 7, 7, 7] [[7], [7]] := ⟨rfl, rfl, hln, hnd, vs, lv, e13, cs⟩
              have s13 := s11.same s13
              have G := F.ext s13.1
              walk_at "ss"
              refine ⟨cv, O, ns, _, _, cc, n, rfl, G.tc, envo, G.ln, G.ok, s13.2, fun Ha ea ta => ?_⟩
              have s13 := s13.trans ⟨ea, ta⟩
              have G := F.ext s13.1
              have envo := EnvAt.ext ea envo
              walk_at "ss"
              refine ⟨cv, O, ns, _, _, cc, n, rfl, G.tc, envo, G.ln, G.ok, fun H14 s14 => ?_⟩
              have s14 := s13.same s14
              have G := F.ext s14.1
              walk_at "ss"
              refine ⟨_, rfl, ?_⟩
              walk_at "ss"
              refine iteF ?_
              obtain ⟨kvs, f1, f2⟩ := G.env.int (k := 0) (by decide)
              walk_at "ss"
              refine o_ixL (lst_of G.eN) (atI_nat (j := 0) (nm_item (by omega))) ?_
              refine k_d f1 f2 ?_
              walk_at "ss"
              refine o_ixL (lst_of G.eN) (atI_nat (j := 0) (nm_item (by omega))) ?_
              refine k_p (s14.at eV rfl) (by rw [kv_len (by rw [hln]; exact Nat.le_refl 6)]; exact small1000 (by show 6 ≤ 1000; decide)) fun H15 c15 e15 => ?_
              rw [kv_put hnd (j := 0) (nm_at (by omega)) (by show 0 < 6; decide)] at e15
              have e15 : H15 V0 = some (.dK (kv ns [.int (i0 + 1), .int i1, .int i2, .int i3, .ref b, .ref c])) := e15
              have eb15 := c15.at (s14.at eb rfl) (ne_of (s14.at eb rfl) (s14.at eV rfl) (by intro z; cases z))
              have ec15 := c15.at (s14.at ec rfl) (ne_of (s14.at ec rfl) (s14.at eV rfl) (by intro z; cases z))
              have ea15 := c15.at G.eN (ne_of G.eN (s14.at eV rfl) (by intro z; cases z))
              have env15 := env_of hln hnd e15 eb15 ec15
              have tk15 : TK H14 H15 := fun q xs g => c15.at g (ne_of g (s14.at eV rfl) (by intro z; cases z))
              have gb : valV (kv ns [.int (i0 + 1), .int i1, .int i2, .int i3, .ref b, .ref c]) (.inr (nm ns 4)) = some (.ref b) := kv_get hnd (nm_at (by omega)) rfl
              walk_at "ss"
              refine o_ixL (lst_of ea15) (atI_nat (j := 4) (nm_item (by omega))) ?_
              refine k_d e15 gb ?_
              walk_at "ss"
              refine o_ixL (lst_of eb15) (atI_nat (j := 0) rfl) ?_
              walk_at "ss"
              refine o_ixL (lst_of ea15) (atI_nat (j := 4) (nm_item (by omega))) ?_
              refine k_d e15 gb ?_
              walk_at "ss"
              refine st_L eb15 (j := 0) (ixN_nat (j := 0) (by simp)) fun H16 c16 e16 => ?_
              have e16' : H16 b = some (.lst (((u0 - 1) :: us).map V.int)) := e16
              have eV16 := c16.at e15 (ne_of e15 eb15 (by intro z; cases z))
              have ec16 := c16.at ec15 nbc.symm
              have ea16 : H16 a = some (.lst (ns.map V.str)) := c16.at ea15 (by
                intro z
                rw [z, eb15] at ea15
                have z2 := HO.lst.inj (Option.some.inj ea15)
                match ns, hln, z2 with
                | _ :: _, _, z2 => cases z2)
              have env16 := env_of hln hnd eV16 e16' ec16
              have T16 : LamX.Tabs (lT K) H16 := tabs_chg c16 eb15 rfl (tabs_chg c15 (s14.at eV rfl) rfl s14.2)
              have tk16 : TK H14 H16 := tk15.trans (c16.tk eb15)
              have eX16 : H16 X = some (.lst es) := by
                have z1 := c15.at G.eX (ne_of G.eX (s14.at eV rfl) (by intro z; cases z))
                refine c16.at z1 ?_
                intro z
                rw [z, eb15] at z1
                have z2 := HO.lst.inj (Option.some.inj z1)
                obtain ⟨e, te, _⟩ := G.hx (.int u0) (by rw [← z2]; exact List.mem_cons_self ..)
                cases e <;> cases te
              walk_at "ss"
              refine ⟨V0, a, ns, _, _, rfl, env16, ea16, fun kq H17 s17 n17 envq => ?_⟩
              have env17 := env16.same s17
              have tk17 := tk16.trans s17.tk
              walk_at "ss"
              refine k_l (lst_of (s17 _ _ eX16)) ?_
              refine f_list (xs := es) (fun j σ H' => ∃ y9, σ = [some (.ref a0), some (.ref h), some (.ref a), some (.ref V0), y4, some (.ref kq), some (.ref X), some cv, y8, y9, some (.ref O), none] ∧ Same H17 H') ⟨_, rfl, Same.refl _⟩ (fun j σ H' hj p => lst_of (p.choose_spec.2 _ _ (s17 _ _ eX16))) (fun j x σ H18 hx p => ?_) (fun σ H18 p => ?_)
              · obtain ⟨y9, rfl, s18⟩ := p
                obtain ⟨e, te, ge⟩ := G.hx x (List.mem_of_getElem? hx)
                have te := (te.tk tk17).tk s18.tk
                walk_at "ss"
                refine ⟨x, V0, ns, _, _, e, rfl, te, env17.same s18, ge, e.dep_le, ?_⟩
                walk_at "ss"
                refine ⟨x, kq, ns, _, _, e, rfl, te, envq.same s18, ge, e.dep_le, ?_⟩
                walk_at "ss"
                refine ⟨_, rfl, ?_⟩
                walk_at "ss"
                refine iteF ?_
                walk_at "ss"
                exact ⟨_, rfl, s18⟩
              · obtain ⟨y9, rfl, s18⟩ := p
                have tc := (G.tc.tk tk17).tk s18.tk
                walk_at "ss"
                refine ⟨cv, V0, ns, _, _, cc, n, rfl, tc, env17.same s18, G.ln, G.ok, T16.ext (s17.trans s18), fun Ha ea ta => ?_⟩
                walk_at "ss"
                refine ⟨cv, kq, ns, _, _, cc, n, rfl, tc.tk (WL.ExtN.tk ea), EnvAt.ext ea (envq.same s18), G.ln, G.ok, fun H19 s19 => ?_⟩
                walk_at "ss"
                exact ⟨_, rfl, q H19⟩
end
end K09
open PySem PySem.W PySem.Calls PyProof.Rows
set_option maxHeartbeats 0 in
theorem PySem.Challenge.cw_wayorring_k09_values_and_truths_holds : PySem.Challenge.rw_wayorring_k09_values_and_truths.Holds := by
  w_on; o_law
  refine HandSHeadRun.head_any (r := OpenLaw.row PySem.Challenge.rw_wayorring_k09_values_and_truths) (q := view (OpenLaw.row PySem.Challenge.rw_wayorring_k09_values_and_truths).prog [22]) (H := K09.hk) (ob := K09.ob) (M := 20000) (loose := K09.loose) (d := HandSHeadRun.topDef (OpenLaw.row PySem.Challenge.rw_wayorring_k09_values_and_truths).prog 22) (kwd := []) K09.ob_eq
    (by kernel_rfl) (fun s => by kernel_rfl) K09.run (by kernel_rfl) (by kernel_rfl) (by kernel_rfl) (by rfl) (by first | assumption | decide +kernel) (by decide +kernel) ⟨rfl, rfl, rfl, rfl, rfl, by decide +kernel⟩ ?hw ?hc
  case hw => w_witness2
  case hc =>
    refine LamX.walk_ofTsE (l := PySem.Challenge.rw_wayorring_k09_values_and_truths) (n := 63) (k := 13) (x := "script") (CX := fun _ => L2.CX0) rfl (by decide) (by kernel_rfl) ⟨rfl, by decide, by decide⟩ ?F (fun _ _ _ _ _ z => z)
    intro w mg fa h Y G hmg0
    obtain ⟨K, KX, c⟩ := Y
    have hmg : mg ("law" : PySem.Str) = some (.ref fa) := by
      have e : (HandSHeadRun.topDef (OpenLaw.row PySem.Challenge.rw_wayorring_k09_values_and_truths).prog 22).name = ("law" : PySem.Str) := by kernel_rfl
      rw [← e]
      exact hmg0
    have T := K09.tx_of KX G c
    obtain ⟨f, fd, F, e2⟩ := T.d_law.ex
    have e3 := hmg.symm.trans e2
    cases e3
    refine ⟨K, KX, fd, K09.tf.map (He.cT K), K09.spLaw K, fun p hp => ?_, fun p hp => ?_, fun p hp => ?_, fun s v => L2.FunD.bindsA (ps := ["script"]) F (fun _ _ _ _ _ _ us hl => match us, hl with | [_], _ => rfl) s [v] rfl, fun H a ns hl _ hH hS => ⟨a, ns, rfl, hS, hl, ?_, fun _ => rfl⟩, fun base _ _ TBs => K09.ok_law T (TBs _ (List.mem_map.mpr ⟨("truth_of", none), by decide, rfl⟩)) F⟩
    · obtain ⟨p', h1, rfl⟩ := List.mem_map.mp hp
      exact c.empty p' h1
    · obtain ⟨p', h1, rfl⟩ := List.mem_map.mp hp
      exact c.out p' h1
    · obtain ⟨p', h1, rfl⟩ := List.mem_map.mp hp
      exact PySem.W.codeHd_of_K KX (c.hd p' h1)
    · intro p hp
      simp only [K09.lT, List.mem_cons, List.not_mem_nil, or_false] at hp
      rcases hp with rfl
      · exact LamX.TabS.nil (hH _ (List.mem_map.mpr ⟨("truth_of", none), by decide, rfl⟩))

