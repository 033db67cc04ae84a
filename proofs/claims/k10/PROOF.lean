import PyProof.Rows.All
import Wide.All
import OpenK.AllK
import Wide.FinOn
import KE.KStateDown
import HandS.ForMost
import HandS.IsInst
import HandS.Codes
import HandS.Exc
import HandS.Defaults
import HandS.Head0
import HandS.Head1
import HandS.Head2
import HandS.HeadEnd
import HandS.HeadHook1
import HandS.HeadHook2
import HandS.HeadHook3
import HandS.HeadHook4
import HandS.FStr
import HandS.Dict
import HandS.More
import Wide.Once
import HandS.Conv
import HandS.Wide
import HandS.Style
import HandS.Star
import HandS.TupAny
import PyProof.ReprRoads
import PyProof.ReprLen
import PyProof.P3Eq
import HandS.Walk
import HandS.Iter
import PySem.Challenge.RW_wayorring_k10_watch_for_a_place
set_option Elab.async false
set_option linter.all false
set_option maxRecDepth 100000
set_option maxHeartbeats 8000000
/-! Wy: rules that take operands of several kinds, and steps. -/
namespace Wy
open PySem PySem.Spec PyProof.Rows L2
section
variable {X : Cx}
theorem CallR.or {f : Value} {r r' : List V → Hp → VK → Prop} (h : CallR X f r) (h' : CallR X f r') : CallR X f (fun xs H Q => r xs H Q ∨ r' xs H Q) := by
  intro pins s σ H xs us Q I rv q
  rcases q with q | q
  · exact h pins s σ H xs us Q I rv q
  · exact h' pins s σ H xs us Q I rv q
/-- k times a text -/
def repS (z : Str) (k : Int) : Str := ⟨(List.replicate k.toNat z.cps.toList).flatten.toArray⟩
theorem foldl_rep (a : Array Nat) : ∀ (n : Nat) (acc : Array Nat), ((List.replicate n a).foldl (· ++ ·) acc) = (acc.toList ++ (List.replicate n a.toList).flatten).toArray
  | 0, acc => by simp
  | n + 1, acc => by
    rw [List.replicate_succ, List.foldl_cons, foldl_rep a n, List.replicate_succ, List.flatten_cons]
    simp
theorem repS_eq (z : Str) (n : Int) : (⟨(List.replicate n.toNat z.cps).foldl (· ++ ·) #[]⟩ : Str) = repS z n := by
  unfold repS
  rw [foldl_rep]
  simp
def rMulSI : R2 := fun x y H Q => ∃ z k, x = .str z ∧ y = .int k ∧ 0 ≤ k ∧ k ≤ 1000 ∧ z.length ≤ 1000 ∧ Q (.str (repS z k)) H
theorem op_mulSI : OpR X (binaryOp .Mult) rMulSI := by
  intro pins s σ H x y v u Q I rx ry h
  obtain ⟨z, k, rfl, rfl, h0, h1, h2, q⟩ := h
  obtain ⟨t, rfl⟩ := rx
  obtain ⟨t', rfl⟩ := ry
  have hs : sizeLine = 16777216 := sizeLine_eq
  refine PySem.P.mul_str ?_ (fun a b => ?_) (fun a b => ?_) ?_
  · rw [decide_eq_false (by omega), decide_eq_false (by omega)]
    rfl
  · have h3 : (1000 : Int) ≤ (2 ^ 63 - 1) / k := (Int.le_ediv_iff_mul_le (by omega)).mpr (by omega)
    omega
  · unfold Builtin.Str.tooLong
    rw [decide_eq_false_iff_not]
    have h4 : z.length * k.toNat ≤ 1000 * 1000 := Nat.mul_le_mul h2 (by omega)
    omega
  · by_cases a : k < 1
    · have ek : k = 0 := by omega
      subst ek
      rw [if_pos a]
      have e : repS z 0 = Str.empty := rfl
      rw [e] at q
      exact ⟨by decide, .str Str.empty, H, I.tok _, ⟨_, rfl⟩, q⟩
    · rw [if_neg a]
      by_cases b : (k == 1 || z.length == 0) = true
      · rw [if_pos b]
        have e : repS z k = z := by
          rcases Bool.or_eq_true_iff.mp b with b | b
          · have e1 : k = 1 := by simpa using b
            subst e1
            unfold repS
            simp
          · have e1 : z.length = 0 := by simpa using b
            have e2 : z.cps = #[] := by simpa [Str.length] using e1
            obtain ⟨c⟩ := z
            unfold repS
            simp at e2
            subst e2
            simp
        rw [e] at q
        exact ⟨.str z, H, I, ⟨_, rfl⟩, q⟩
      · rw [if_neg b, repS_eq]
        refine ⟨?_, .str (repS z k), H, I.tok _, ⟨_, rfl⟩, q⟩
        have h4 : (repS z k).length = k.toNat * z.length := by
          unfold repS
          simp [Str.length, List.length_flatten, List.map_replicate, List.sum_replicate_nat]
        rw [h4]
        have h5 : k.toNat * z.length ≤ 1000 * 1000 := Nat.mul_le_mul (by omega) h2
        omega
/-- + of two ints, two texts, two lists -/
def rAddS : R2 := fun x y H Q => ∃ i j, x = .str i ∧ y = .str j ∧ i.length + j.length ≤ sizeLine ∧ Q (.str (i ++ j)) H
def rAddI : R2 := rI0 fun i j => .int (i + j)
def rAdd3 : R2 := fun x y H Q => rAddI x y H Q ∨ rAddS x y H Q ∨ rCat x y H Q
theorem op_add3 : OpR X (binaryOp .Add) rAdd3 := op_add.or (op_add_str.or op_cat)
def rMul2 : R2 := fun x y H Q => rI CMul (fun i j => .int (i * j)) x y H Q ∨ rMulSI x y H Q
theorem op_mul2 : OpR X (binaryOp .Mult) rMul2 := op_mul.or op_mulSI
/-- == -/
def rEq2 (K : PySem.W.Frag) : R2 := fun x y H Q => rEq x y H Q ∨ rEqD K x y H Q
theorem op_eq2 (hu : X.A.units + 64 < cLine) : OpR X (compareOp .Eq) (rEq2 X.K) := op_eq.or (op_eqD hu)
def rNe2 (K : PySem.W.Frag) : R2 := fun x y H Q => rNe x y H Q ∨ rNeD K x y H Q
theorem op_ne2 (hu : X.A.units + 64 < cLine) : OpR X (compareOp .NotEq) (rNe2 X.K) := op_ne.or (op_neD hu)
/-- in: a sign in a text; a flat item in a list or tuple -/
def rInS : R2 := fun x y H Q => ∃ (c : Nat) (z : Str), x = .str ⟨#[c]⟩ ∧ y = .str z ∧ Q (.bl (decide (c ∈ z.cps.toList))) H
def rNiS : R2 := fun x y H Q => ∃ (c : Nat) (z : Str), x = .str ⟨#[c]⟩ ∧ y = .str z ∧ Q (.bl (!decide (c ∈ z.cps.toList))) H
def rIn2 (K : PySem.W.Frag) : R2 := fun x y H Q => rInS x y H Q ∨ rIn K false x y H Q
def rNi2 (K : PySem.W.Frag) : R2 := fun x y H Q => rNiS x y H Q ∨ rIn K true x y H Q
theorem op_in2 : OpR X (compareOp .In) (rIn2 X.K) := op_in_sign.or op_in_seq
theorem op_ni2 : OpR X (compareOp .NotIn) (rNi2 X.K) := op_notIn_sign.or op_notIn_seq
def rSl2 (K : PySem.W.Frag) : V → Option Int → Option Int → Hp → VK → Prop := fun x lo hi H Q => rSlS x lo hi H Q ∨ rSlL K x lo hi H Q
theorem sl_2 : SlR X (rSl2 X.K) := sl_str.or sl_list
def rInt : List V → Hp → VK → Prop := fun xs H Q => ((∃ i, xs = [.int i] ∧ Q (.int i) H) ∨ ∃ k, xs = [.bl k] ∧ Q (.int (if k then 1 else 0)) H) ∨ ∃ a n, xs = [.str a] ∧ PySem.intText? a = some n ∧ a.length ≤ 640 ∧ Q (.int n) H
theorem call_int2 : CallR X (.type "int") rInt := CallR.or call_int1 call_int_str
def rAbs : List V → Hp → VK → Prop := fun xs H Q => ∃ i, xs = [.int i] ∧ Q (.int (if i < 0 then -i else i)) H
theorem call_abs2 : CallR X (.builtin "abs") rAbs := call_abs
def rLn (K : PySem.W.Frag) : List V → Hp → VK → Prop := fun xs H Q => ∃ x n, xs = [x] ∧ LenV K x H n ∧ Q (.int n) H
theorem call_len2 : CallR X (.builtin "len") (rLn X.K) := call_len
def tTr (K : PySem.W.Frag) (ta : TE) : TT := fun σ H Q => ta σ H fun x H' => ∃ k, TruV K x H' k ∧ Q k H'
theorem pt_tr {e : Expr} {te : TE} (h : PE X e te) (he : ∀ whole, isTrue e X.env whole = (do let v ← whole; standAt e.pos; holding [v] (truthy v)) := by intro _; rfl) : PT X e (tTr X.K te) := pt_truth h he
end

/-! ### what a heap keeps -/
/-- only at l -/
def Chg (l : Addr) (H H' : Hp) : Prop := ∀ b, b ≠ l → H' b = H b
theorem same_new {H : Hp} {p : Addr} {o : HO} (h : H p = none) : Same H (upd H p o) := fun b x e => by
  rw [upd_ne (ne_of_none e h)]
  exact e
theorem chg_upd {H : Hp} {p : Addr} {o : HO} : Chg p H (upd H p o) := fun b e => by rw [upd_ne e]
theorem Chg.same {l : Addr} {H0 H H' : Hp} (c : Chg l H H') (s : Same H0 H) (n : H0 l = none) : Same H0 H' := fun b o e => by
  rw [c b (ne_of_none e n)]
  exact s b o e
theorem Chg.at {l b : Addr} {H H' : Hp} {o : HO} (c : Chg l H H') (e : H b = some o) (n : b ≠ l) : H' b = some o := by
  rw [c b n]
  exact e
theorem new_same {H : Hp} {o : HO} {Q : VK} (h : ∀ p H2, H p = none → Same H H2 → H2 p = some o → Q (.ref p) H2) : ∀ p, H p = none → Q (.ref p) (upd H p o) :=
  fun p np => h p _ np (same_new np) upd_same
theorem lst_of {K : PySem.W.Frag} {H : Hp} {a : Addr} {xs : List V} (h : H a = some (.lst xs)) : SqL K H a xs := .inl (.inl h)
theorem tup_of {K : PySem.W.Frag} {H : Hp} {a : Addr} {xs : List V} (h : H a = some (.tup xs)) : SqT K H a xs := .inl (.inl h)
theorem seqT {K : PySem.W.Frag} {H H' : Hp} {a : Addr} {xs : List V} (e : Same H H') (h : SqT K H a xs) : SqT K H' a xs := by
  rcases h with (h | ⟨o, h⟩) | h
  · exact .inl (.inl (e _ _ h))
  · exact .inl (.inr ⟨o, e _ _ h⟩)
  · exact .inr h
/-! ### steps -/
def KBl (x : V) (H : Hp) (QT : Bool → Hp → Prop) : Prop := ∃ k, x = .bl k ∧ QT k H
def KTr (K : PySem.W.Frag) (x : V) (H : Hp) (QT : Bool → Hp → Prop) : Prop := ∃ k, TruV K x H k ∧ QT k H
def KInt (x : V) (H : Hp) (QO : Option Int → Hp → Prop) : Prop := ∃ i, x = .int i ∧ QO (some i) H
def KR1 (vs : List V) (H : Hp) (R : It → Hp → Prop) : Prop := ∃ j : Int, vs = [.int j] ∧ -(2 ^ 62) ≤ j ∧ j < 2 ^ 62 ∧ R (Itr 0 j.toNat) H
def KR2 (vs : List V) (H : Hp) (R : It → Hp → Prop) : Prop := ∃ i j : Int, vs = [.int i, .int j] ∧ (-(2 ^ 62) ≤ i ∧ i < 2 ^ 62 ∧ -(2 ^ 62) ≤ j ∧ j < 2 ^ 62) ∧ R (Itr i (j - i).toNat) H
def KL (K : PySem.W.Frag) (x : V) (H : Hp) (R : It → Hp → Prop) : Prop := ∃ a, x = .ref a ∧ (∃ xs, SqL K H a xs) ∧ R (Itl K a) H
def KT (K : PySem.W.Frag) (x : V) (H : Hp) (R : It → Hp → Prop) : Prop := ∃ a, x = .ref a ∧ (∃ xs, SqT K H a xs) ∧ R (Itt K a) H
def KS (x : V) (H : Hp) (R : It → Hp → Prop) : Prop := ∃ z, x = .str z ∧ R (Its z) H
def NewO (n : Nat) (o : HO) (H : Hp) (Q : VK) : Prop := n ≤ sizeLine ∧ ∀ p, H p = none → Q (.ref p) (upd H p o)
def COut (D : Addr) (y : V) (H : Hp) (N : Hp → Prop) : Prop := ∃ acc, H D = some (.lst acc) ∧ acc.length < sizeLine ∧ N (upd H D (.lst (acc ++ [y])))
def KWh (W : Nat → L2.St → Hp → Prop) (m : Nat) (t : TS) (D : Ends) (σ : L2.St) (H : Hp) : Prop := ∃ N : L2.St → Hp → Prop, (∀ σ' H', N σ' H' → ∃ m', m' < m ∧ W m' σ' H') ∧ t ⟨N, D.rt, D.nx, N⟩ σ H
section
variable {K : PySem.W.Frag} {σ : L2.St} {H : Hp} {Q : VK} {QT : Bool → Hp → Prop} {D : Ends} {t u : TS} {c c' : TT} {te ta tb : TE} {g : TG} {v x y : V} {i : Nat} {b : Bool} {QA : List V → Hp → Prop}
theorem s_seq (h : t ⟨u D, D.rt, D.bk, D.ct⟩ σ H) : tSeq t u D σ H := h
theorem s_asg (h : te σ H fun x H1 => g x σ H1 D.nx) : tAsg te g D σ H := h
theorem g_name {QS : L2.St → Hp → Prop} (h : QS (σ.set i (some v)) H) : gName i v σ H QS := h
theorem s_ret (h : te σ H D.rt) : tRet te D σ H := h
theorem s_retN (h : D.rt .non H) : tRetN D σ H := h
theorem s_drop (h : te σ H fun _ H1 => D.nx σ H1) : tDrop te D σ H := h
theorem s_if (h : c σ H fun b H1 => if b = true then t D σ H1 else u D σ H1) : tIfS c t u D σ H := h
theorem s_next (h : D.nx σ H) : tNext D σ H := h
theorem s_brk (h : D.bk σ H) : tBreak D σ H := h
theorem s_ct (h : D.ct σ H) : tCont D σ H := h
theorem s_aug {ti : TIp} (e : σ[i]? = some (some x)) (h : te σ H fun y H1 => ti x y H1 fun z H2 => D.nx (σ.set i (some z)) H2) : tAug i te ti D σ H := ⟨x, e, h⟩
theorem i_add {i j : Int} {f : Int → Int → Int} (h : Q (.int (f i j)) H) : ipI f (.int i) (.int j) H Q := ⟨i, j, rfl, rfl, h⟩
theorem s_cut (M : L2.St → Hp → Prop) (h : t ⟨M, D.rt, D.bk, D.ct⟩ σ H) (k : ∀ σ' H', M σ' H' → u D σ' H') : C8.tCut t u D σ H := ⟨M, h, k⟩
theorem e_var (e : σ[i]? = some (some v)) (h : Q v H) : tVar i σ H Q := ⟨v, e, h⟩
theorem e_c (h : Q v H) : tC v σ H Q := h
theorem e_op {r : R2} (h : ta σ H fun x H1 => tb σ H1 fun y H2 => r x y H2 Q) : tOp r ta tb σ H Q := h
theorem e_un {r : V → Hp → VK → Prop} (h : ta σ H fun x H1 => r x H1 Q) : tUn r ta σ H Q := h
theorem o_addI {i j : Int} (h : Q (.int (i + j)) H) : rAdd3 (.int i) (.int j) H Q := .inl ⟨i, j, rfl, rfl, h⟩
theorem o_addS {i j : Str} (hz : i.length + j.length ≤ sizeLine) (h : Q (.str (i ++ j)) H) : rAdd3 (.str i) (.str j) H Q := .inr (.inl ⟨i, j, rfl, rfl, hz, h⟩)
theorem o_addL {a a' : Addr} {xs ys : List V} (ha : H a = some (.lst xs)) (hb : H a' = some (.lst ys)) (hz : xs.length + ys.length ≤ sizeLine) (h : ∀ p H2, H p = none → Same H H2 → H2 p = some (.lst (xs ++ ys)) → Q (.ref p) H2) :
    rAdd3 (.ref a) (.ref a') H Q := .inr (.inr ⟨a, a', xs, ys, rfl, rfl, ha, hb, hz, new_same h⟩)
theorem o_mulI {i j : Int} (hc : CMul i j) (h : Q (.int (i * j)) H) : rMul2 (.int i) (.int j) H Q := .inl ⟨i, j, rfl, rfl, hc, h⟩
theorem o_mulI1 {i j : Int} (h1 : -(2 ^ 64) < i) (h2 : i < 2 ^ 64) (h : Q (.int (i * j)) H) : rMul2 (.int i) (.int j) H Q := o_mulI (.inl ⟨h1, h2⟩) h
theorem o_mulI2 {i j : Int} (h1 : -(2 ^ 64) < j) (h2 : j < 2 ^ 64) (h : Q (.int (i * j)) H) : rMul2 (.int i) (.int j) H Q := o_mulI (.inr ⟨h1, h2⟩) h
theorem o_mod {f : Int → Int → V} {i j : Int} (h1 : 0 < j) (h : Q (f i j) H) : rI (fun _ j => 0 < j) f (.int i) (.int j) H Q := ⟨i, j, rfl, rfl, h1, h⟩
theorem o_fdiv {f : Int → Int → V} {i j : Int} (h1 : 0 < j) (h2 : j < 1073741824) (h : Q (f i j) H) : rI CDiv f (.int i) (.int j) H Q := ⟨i, j, rfl, rfl, ⟨h1, h2⟩, h⟩
theorem o_pow {f : Int → Int → V} {i j : Int} (h1 : 0 ≤ j) (h2 : j ≤ 1000000) (h3 : i.natAbs < 2 ^ 64) (h : Q (f i j) H) : rI CPow f (.int i) (.int j) H Q := ⟨i, j, rfl, rfl, ⟨h1, h2, h3⟩, h⟩
theorem o_mulS {z : Str} {k : Int} (h0 : 0 ≤ k) (h1 : k ≤ 1000) (h2 : z.length ≤ 1000) (h : Q (.str (repS z k)) H) : rMul2 (.str z) (.int k) H Q := .inr ⟨z, k, rfl, rfl, h0, h1, h2, h⟩
theorem o_I0 {f : Int → Int → V} {i j : Int} (h : Q (f i j) H) : rI0 f (.int i) (.int j) H Q := ⟨i, j, rfl, rfl, h⟩
theorem o_I {C : Int → Int → Prop} {f : Int → Int → V} {i j : Int} (hc : C i j) (h : Q (f i j) H) : rI C f (.int i) (.int j) H Q := ⟨i, j, rfl, rfl, hc, h⟩
theorem o_eqS (hs : scal x y = true) (h : Q (.bl (decide (x = y))) H) : rEq2 K x y H Q := .inl ⟨hs, h⟩
theorem o_neS (hs : scal x y = true) (h : Q (.bl (!decide (x = y))) H) : rNe2 K x y H Q := .inl ⟨hs, h⟩
theorem o_eqD {d e : PyData} (h1 : Dp K H x d) (h2 : Dp K H y e) (h3 : SeqAt.shaped d = true) (h4 : SeqAt.shaped e = true) (h : Q (.bl (PyData.eqv d e)) H) : rEq2 K x y H Q := .inr ⟨d, e, h1, h2, h3, h4, h⟩
theorem o_neD {d e : PyData} (h1 : Dp K H x d) (h2 : Dp K H y e) (h3 : SeqAt.shaped d = true) (h4 : SeqAt.shaped e = true) (h : Q (.bl (!PyData.eqv d e)) H) : rNe2 K x y H Q := .inr ⟨d, e, h1, h2, h3, h4, h⟩
theorem o_inS {k : Nat} {z : Str} (h : Q (.bl (decide (k ∈ z.cps.toList))) H) : rIn2 K (.str ⟨#[k]⟩) (.str z) H Q := .inl ⟨k, z, rfl, rfl, h⟩
theorem o_niS {k : Nat} {z : Str} (h : Q (.bl (!decide (k ∈ z.cps.toList))) H) : rNi2 K (.str ⟨#[k]⟩) (.str z) H Q := .inl ⟨k, z, rfl, rfl, h⟩
theorem o_inT {a : Addr} {xs : List V} (hs : SqT K H a xs) (hf : flatV x = true) (hg : xs.all flatV = true) (h : Q (.bl (inV x xs)) H) : rIn2 K x (.ref a) H Q := .inr ⟨a, xs, rfl, .inr hs, hf, hg, h⟩
theorem o_inL {a : Addr} {xs : List V} (hs : SqL K H a xs) (hf : flatV x = true) (hg : xs.all flatV = true) (h : Q (.bl (inV x xs)) H) : rIn2 K x (.ref a) H Q := .inr ⟨a, xs, rfl, .inl hs, hf, hg, h⟩
theorem o_niT {a : Addr} {xs : List V} (hs : SqT K H a xs) (hf : flatV x = true) (hg : xs.all flatV = true) (h : Q (.bl (!inV x xs)) H) : rNi2 K x (.ref a) H Q := .inr ⟨a, xs, rfl, .inr hs, hf, hg, h⟩
theorem o_niL {a : Addr} {xs : List V} (hs : SqL K H a xs) (hf : flatV x = true) (hg : xs.all flatV = true) (h : Q (.bl (!inV x xs)) H) : rNi2 K x (.ref a) H Q := .inr ⟨a, xs, rfl, .inl hs, hf, hg, h⟩
def rIsN : R2 := fun x y H Q => y = .non ∧ Q (.bl (decide (x = .non))) H
def rNtN : R2 := fun x y H Q => y = .non ∧ Q (.bl (!decide (x = .non))) H
theorem op_isN2 {X : Cx} : OpR X (compareOp .Is) rIsN := op_isN
theorem op_ntN2 {X : Cx} : OpR X (compareOp .IsNot) rNtN := op_notN
theorem o_isN (h : Q (.bl (decide (x = .non))) H) : rIsN x .non H Q := ⟨rfl, h⟩
theorem o_ntN (h : Q (.bl (!decide (x = .non))) H) : rNtN x .non H Q := ⟨rfl, h⟩
theorem o_ixL {a : Addr} {xs : List V} {j : Int} (hs : SqL K H a xs) (e : atI xs j = some v) (h : Q v H) : rIx K (.ref a) (.int j) H Q := .inl ⟨a, xs, j, v, rfl, rfl, hs, e, h⟩
theorem o_ixT {a : Addr} {xs : List V} {j : Int} (hs : SqT K H a xs) (e : atI xs j = some v) (h : Q v H) : rIx K (.ref a) (.int j) H Q := .inr (.inl ⟨a, xs, j, v, rfl, rfl, hs, e, h⟩)
theorem o_ixS {z : Str} {j : Int} {k : Nat} (hz : z.length ≤ sizeLine) (e : atI z.cps.toList j = some k) (h : Q (.str ⟨#[k]⟩) H) : rIx K (.str z) (.int j) H Q := .inr (.inr ⟨z, j, k, rfl, rfl, hz, e, h⟩)
theorem u_neg {i : Int} {f : Int → V} (h : Q (f i) H) : rU f (.int i) H Q := ⟨i, rfl, h⟩
theorem t_test (h : te σ H fun x H' => KBl x H' QT) : tTest te σ H QT := h
theorem t_b (h : te σ H fun x H' => KBl x H' QT) : tB te σ H QT := h
theorem k_bl (h : QT b H) : KBl (.bl b) H QT := ⟨b, rfl, h⟩
theorem t_tr (h : te σ H fun x H' => KTr K x H' QT) : tTr K te σ H QT := h
theorem k_trB (h : QT b H) : KTr K (.bl b) H QT := ⟨b, rfl, h⟩
theorem k_trN (h : QT false H) : KTr K .non H QT := ⟨false, rfl, h⟩
theorem k_trI {i : Int} (h : QT (i != 0) H) : KTr K (.int i) H QT := ⟨_, rfl, h⟩
theorem k_trL {a : Addr} {xs : List V} (hs : SqL K H a xs) (h : QT (!xs.isEmpty) H) : KTr K (.ref a) H QT := ⟨_, .inl ⟨xs, hs, rfl⟩, h⟩
theorem k_trT {a : Addr} {xs : List V} (hs : SqT K H a xs) (h : QT (!xs.isEmpty) H) : KTr K (.ref a) H QT := ⟨_, .inr (.inl ⟨xs, hs, rfl⟩), h⟩
theorem t_and (h : c σ H fun b H1 => if b = true then c' σ H1 QT else QT false H1) : tAnd c c' σ H QT := h
theorem t_or (h : c σ H fun b H1 => if b = true then QT true H1 else c' σ H1 QT) : tOr c c' σ H QT := h
theorem t_not (h : c σ H fun b H1 => QT (!b) H1) : tNot c σ H QT := h
theorem e_andV (h : ta σ H fun x H1 => KBl x H1 fun b H2 => if b = true then tb σ H2 Q else Q (.bl false) H2) : tAndV ta tb σ H Q := h
theorem e_orV (h : ta σ H fun x H1 => KBl x H1 fun b H2 => if b = true then Q (.bl true) H2 else tb σ H2 Q) : tOrV ta tb σ H Q := h
theorem e_notV (h : ta σ H fun x H1 => KBl x H1 fun b H2 => Q (.bl (!b)) H2) : tNotV ta σ H Q := h
theorem e_if (h : c σ H fun b H1 => if b = true then ta σ H1 Q else tb σ H1 Q) : tIf c ta tb σ H Q := h
theorem e_chain {r r' : R2} {tc : TE} (h : ta σ H fun x H1 => tb σ H1 fun y H2 => r x y H2 fun z H3 => KBl z H3 fun k H3 => if k = true then tc σ H3 fun w' H4 => r' y w' H4 Q else Q (.bl false) H3) : tChain r r' ta tb tc σ H Q := h
theorem a_nil (h : QA [] H) : tNil σ H QA := h
theorem a_cons {tr : TA} (h : te σ H fun x H1 => tr σ H1 fun xs H2 => QA (x :: xs) H2) : tCons te tr σ H QA := h
theorem c_b {r : List V → Hp → VK → Prop} {tl : TA} (h : tl σ H fun vs H1 => r vs H1 Q) : tCB r tl σ H Q := h
theorem c_call {sp : Sp} {dvs : List V} {E : XK} {tl : TA} (h : tl σ H fun vs H1 => sp (vs ++ dvs) H1 Q E) : tCall sp dvs E tl σ H Q := h
theorem b_lenS {z : Str} (hz : z.length ≤ sizeLine) (h : Q (.int z.length) H) : rLn K [.str z] H Q := ⟨_, z.length, rfl, ⟨hz, rfl⟩, h⟩
theorem b_lenL {a : Addr} {xs : List V} (hs : SqL K H a xs) (h : Q (.int xs.length) H) : rLn K [.ref a] H Q := ⟨_, xs.length, rfl, .inl ⟨xs, hs, rfl⟩, h⟩
theorem b_lenT {a : Addr} {xs : List V} (hs : SqT K H a xs) (h : Q (.int xs.length) H) : rLn K [.ref a] H Q := ⟨_, xs.length, rfl, .inr ⟨xs, hs, rfl⟩, h⟩
theorem b_int {i : Int} (h : Q (.int i) H) : rInt [.int i] H Q := .inl (.inl ⟨i, rfl, h⟩)
theorem b_intB (h : Q (.int (if b then 1 else 0)) H) : rInt [.bl b] H Q := .inl (.inr ⟨b, rfl, h⟩)
theorem b_intS {z : Str} {n : Int} (e : PySem.intText? z = some n) (hl : z.length ≤ 640) (h : Q (.int n) H) : rInt [.str z] H Q := .inr ⟨z, n, rfl, e, hl, h⟩
theorem b_abs {i : Int} (h : Q (.int (if i < 0 then -i else i)) H) : rAbs [.int i] H Q := ⟨i, rfl, h⟩
theorem b_isi {n : String} {x : V} {tv : Value} (ty : TyX K H x tv) (h : PySem.W.kitOne K tv (.type n) = some b) (q : Q (.bl b) H) : rIsi K [x, .ty n] H Q := ⟨x, .ty n, tv, .type n, b, rfl, .ty n, ty, h, q⟩
theorem e_tup {tl : TA} (h : tl σ H fun xs H1 => NewO xs.length (.tup xs) H1 Q) : tTup tl σ H Q := h
theorem e_lst {tl : TA} (h : tl σ H fun xs H1 => NewO xs.length (.lst xs) H1 Q) : tLst tl σ H Q := h
theorem n_obj {n : Nat} {o : HO} (hz : n ≤ sizeLine) (h : ∀ p H2, H p = none → Same H H2 → H2 p = some o → Q (.ref p) H2) : NewO n o H Q := ⟨hz, new_same h⟩
theorem e_sl {r : V → Option Int → Option Int → Hp → VK → Prop} {tl th : TO} (h : te σ H fun x H1 => tl σ H1 fun l H2 => th σ H2 fun u H3 => r x l u H3 Q) : tSl r te tl th σ H Q := h
theorem p_no {QO : Option Int → Hp → Prop} (h : QO none H) : tNoPart σ H QO := h
theorem p_so {QO : Option Int → Hp → Prop} (h : te σ H fun x H1 => KInt x H1 QO) : tPart te σ H QO := h
theorem k_int {i : Int} {QO : Option Int → Hp → Prop} (h : QO (some i) H) : KInt (.int i) H QO := ⟨i, rfl, h⟩
theorem l_S {z : Str} {lo hi : Option Int} (hz : z.length ≤ sizeLine) (h : Q (.str (cutS z lo hi)) H) : rSl2 K (.str z) lo hi H Q := .inl ⟨z, rfl, hz, h⟩
theorem l_L {a : Addr} {xs : List V} {lo hi : Option Int} (hs : SqL K H a xs) (h : ∀ p H2, H p = none → Same H H2 → H2 p = some (.lst (cutV xs lo hi)) → Q (.ref p) H2) : rSl2 K (.ref a) lo hi H Q := .inr ⟨a, xs, rfl, hs, new_same h⟩
/-- o.m(..), m of a built-in type -/
theorem m_bm {T : String} {r : V → List V → Hp → VK → Prop} {tl : TA} (h : te σ H fun x H1 => tyV K T x H1 ∧ tl σ H1 fun xs H2 => r x xs H2 Q) : tBM K T r te tl σ H Q := h
theorem m_ty {a : Addr} {xs : List V} {P : Prop} (hs : SqL K H a xs) (h : P) : tyV K "list" (.ref a) H ∧ P := ⟨.inl ⟨rfl, xs, hs⟩, h⟩
theorem m_app {a : Addr} {xs : List V} (e : H a = some (.lst xs)) (hz : xs.length < sizeLine) (h : ∀ H2, Chg a H H2 → H2 a = some (.lst (xs ++ [y])) → Q .non H2) : rAppend (.ref a) [y] H Q := ⟨a, xs, y, rfl, rfl, e, hz, h _ chg_upd upd_same⟩
theorem g_sub {to ti : TE} {ts : TSet} {QS : L2.St → Hp → Prop} (h : to σ H fun o H1 => ti σ H1 fun i H2 => ts o i v H2 fun H3 => QS σ H3) : gSub to ti ts v σ H QS := h
theorem st_L {a : Addr} {xs : List V} {k : Int} {j : Nat} {QH : Hp → Prop} (e : H a = some (.lst xs)) (hj : ixN xs.length k = some j) (h : ∀ H2, Chg a H H2 → H2 a = some (.lst (xs.set j v)) → QH H2) : rSetL (.ref a) (.int k) v H QH := ⟨a, xs, k, j, rfl, rfl, e, hj, h _ chg_upd upd_same⟩
theorem m_m1 {r : V → List V → Hp → VK → Prop} (h : te σ H fun x H1 => (∃ a, x = .str a) ∧ ta σ H1 fun y H2 => r x [y] H2 Q) : tM1 r te ta σ H Q := h
theorem m_st {z : Str} {P : Prop} (h : P) : (∃ a, V.str z = .str a) ∧ P := ⟨⟨z, rfl⟩, h⟩
def rJoin (K : PySem.W.Frag) : V → List V → Hp → VK → Prop := fun x xs H Q => ∃ a p, ∃ ys : List Str, x = .str a ∧ xs = [.ref p] ∧ (SqL K H p (ys.map V.str) ∨ SqT K H p (ys.map V.str)) ∧
  (ys.map (·.length)).sum + ys.length * a.length ≤ 16777216 ∧ Q (.str (Txt.join a ys)) H
theorem pe_join2 {X : Cx} {o e : Expr} {to te : TE} {apos pos : Pos} (ho : PE X o to) (he : PE X e te) (hs : starEach [e] X.env = [(false, eval e X.env)] := by rfl) (hbase : attributeBase o "join" X.env (eval o X.env) = eval o X.env := by rfl) (hline : (apos.endLine == pos.line) = true := by rfl) :
    PE X (.Call (.Attribute o "join" apos) [e] [] pos) (tM1 (rJoin X.K) to te) := pe_join ho he hs hbase hline
theorem m_join {z : Str} {a : Addr} {ys : List Str} (hs : SqL K H a (ys.map V.str)) (hz : (ys.map (·.length)).sum + ys.length * z.length ≤ 16777216) (h : Q (.str (Txt.join z ys)) H) : rJoin K (.str z) [.ref a] H Q := ⟨z, a, ys, rfl, rfl, .inl hs, hz, h⟩
/-! ### loops -/
def LoopF (J : It) (g : TG) (tb : TS) (D : Ends) (σ : L2.St) (H : Hp) : Prop := ∃ W : Nat → Nat → L2.St → Hp → Prop, (∃ m, W 0 m σ H) ∧ ∀ i m σ H, W i m σ H →
  (J.stop i H ∧ D.nx σ H) ∨ (J.go i H ∧ ∃ N : L2.St → Hp → Prop, (∀ σ' H', N σ' H' → ∃ m', m' < m ∧ W (i + 1) m' σ' H') ∧ ∀ x H', J.yld i H x H' → g x σ H' fun σ2 H2 => tb { D with nx := N, ct := N, bk := D.nx } σ2 H2)
theorem s_for {wi : TI} (h : wi σ H fun J H1 => LoopF J g t D σ H1) : tFor wi g t D σ H := h
def LoopC (J : It) (g : TG) (tt : TT) (te : TE) (vs : List Nat) (σ : L2.St) (H1 : Hp) (Q : VK) : Prop := ∀ D, H1 D = none → ∃ W : Nat → Nat → Hp → Prop, (∃ m, W 0 m (upd H1 D (.lst []))) ∧ ∀ i m H, W i m H →
  (J.stop i H ∧ Q (.ref D) H) ∨ (J.go i H ∧ ∃ Nx : Hp → Prop, (∀ H', Nx H' → ∃ m', m' < m ∧ W (i + 1) m' H') ∧ ∀ x H', J.yld i H x H' → g x (wipe σ vs) H' fun σ2 H2 => wipe σ2 vs = wipe σ vs ∧ tt σ2 H2 fun b H3 =>
    if b = true then te σ2 H3 fun y H4 => ∃ acc, H4 D = some (.lst acc) ∧ acc.length < sizeLine ∧ Nx (upd H4 D (.lst (acc ++ [y]))) else Nx H3)
theorem e_lc {wi : TI} {tt : TT} {vs : List Nat} (h : wi σ H fun J H1 => LoopC J g tt te vs σ H1 Q) : tLc wi g tt te vs σ H Q := h
theorem t_yes (h : QT true H) : tYes σ H QT := h
theorem w_r1 {tl : TA} {R : It → Hp → Prop} (h : tl σ H fun vs H1 => KR1 vs H1 R) : iRng1 tl σ H R := h
theorem w_r2 {tl : TA} {R : It → Hp → Prop} (h : tl σ H fun vs H1 => KR2 vs H1 R) : iRng2 tl σ H R := h
theorem k_r1 {j : Int} {R : It → Hp → Prop} (h1 : -(2 ^ 62) ≤ j) (h2 : j < 2 ^ 62) (h : R (Itr 0 j.toNat) H) : KR1 [.int j] H R := ⟨j, rfl, h1, h2, h⟩
theorem k_r2 {i j : Int} {R : It → Hp → Prop} (h1 : -(2 ^ 62) ≤ i ∧ i < 2 ^ 62 ∧ -(2 ^ 62) ≤ j ∧ j < 2 ^ 62) (h : R (Itr i (j - i).toNat) H) : KR2 [.int i, .int j] H R := ⟨i, j, rfl, h1, h⟩
theorem w_l {R : It → Hp → Prop} (h : te σ H fun x H1 => KL K x H1 R) : iList K te σ H R := h
theorem k_l {a : Addr} {xs : List V} {R : It → Hp → Prop} (hs : SqL K H a xs) (h : R (Itl K a) H) : KL K (.ref a) H R := ⟨a, rfl, ⟨xs, hs⟩, h⟩
theorem w_t {R : It → Hp → Prop} (h : te σ H fun x H1 => KT K x H1 R) : iTup K te σ H R := h
theorem k_t {a : Addr} {xs : List V} {R : It → Hp → Prop} (hs : SqT K H a xs) (h : R (Itt K a) H) : KT K (.ref a) H R := ⟨a, rfl, ⟨xs, hs⟩, h⟩
theorem f_range {lo : Int} {n : Nat} (Pv : Nat → L2.St → Hp → Prop) (h0 : Pv 0 σ H)
    (hs : ∀ i σ H, i < n → Pv i σ H → g (.int (lo + i)) σ H fun σ2 H2 => t ⟨Pv (i + 1), D.rt, D.nx, Pv (i + 1)⟩ σ2 H2) (hd : ∀ σ H, Pv n σ H → D.nx σ H) : LoopF (Itr lo n) g t D σ H := for_range Pv h0 hs hd
theorem f_list {a : Addr} {xs : List V} (Pv : Nat → L2.St → Hp → Prop) (h0 : Pv 0 σ H) (hl : ∀ i σ H, i ≤ xs.length → Pv i σ H → SqL K H a xs)
    (hs : ∀ i x σ H, xs[i]? = some x → Pv i σ H → g x σ H fun σ2 H2 => t ⟨Pv (i + 1), D.rt, D.nx, Pv (i + 1)⟩ σ2 H2) (hd : ∀ σ H, Pv xs.length σ H → D.nx σ H) : LoopF (Itl K a) g t D σ H := for_list Pv h0 hl hs hd
theorem f_tup {a : Addr} {xs : List V} (Pv : Nat → L2.St → Hp → Prop) (h0 : Pv 0 σ H) (hl : ∀ i σ H, i ≤ xs.length → Pv i σ H → SqT K H a xs)
    (hs : ∀ i x σ H, xs[i]? = some x → Pv i σ H → g x σ H fun σ2 H2 => t ⟨Pv (i + 1), D.rt, D.nx, Pv (i + 1)⟩ σ2 H2) (hd : ∀ σ H, Pv xs.length σ H → D.nx σ H) : LoopF (Itt K a) g t D σ H := for_tup Pv h0 hl hs hd
/-- a text, sign by sign -/
theorem w_s {R : It → Hp → Prop} (h : te σ H fun x H1 => KS x H1 R) : iStr te σ H R := h
theorem k_s {z : Str} {R : It → Hp → Prop} (h : R (Its z) H) : KS (.str z) H R := ⟨z, rfl, h⟩
theorem f_str {z : Str} (Pv : Nat → L2.St → Hp → Prop) (h0 : Pv 0 σ H)
    (hs : ∀ i k σ H, z.cps.toList[i]? = some k → Pv i σ H → g (.str ⟨#[k]⟩) σ H fun σ2 H2 => t ⟨Pv (i + 1), D.rt, D.nx, Pv (i + 1)⟩ σ2 H2) (hd : ∀ σ H, Pv z.cps.toList.length σ H → D.nx σ H) : LoopF (Its z) g t D σ H := by
  refine ⟨fun i m σ H => m = z.cps.toList.length - i ∧ i ≤ z.cps.toList.length ∧ Pv i σ H, ⟨_, rfl, Nat.zero_le _, h0⟩, ?_⟩
  rintro i m σ H ⟨rfl, hi, p⟩
  by_cases hlt : i < z.cps.toList.length
  · refine .inr ⟨show i < z.cps.size by simpa using hlt, Pv (i + 1), fun σ' H' p' => ⟨z.cps.toList.length - (i + 1), by omega, rfl, hlt, p'⟩, fun x H' y => ?_⟩
    obtain ⟨rfl, k, e, rfl⟩ := y
    exact hs i k σ _ (by simpa using e) p
  · have e : i = z.cps.toList.length := by omega
    subst e
    exact .inl ⟨by simp [Its], hd σ H p⟩
theorem c_range {lo : Int} {n : Nat} {vs : List Nat} {tt : TT} (Pv : Addr → Nat → Hp → Prop) (h0 : ∀ D H1, H D = none → Same H H1 → H1 D = some (.lst []) → Pv D 0 H1)
    (hs : ∀ D i H1, i < n → H D = none → Pv D i H1 → g (.int (lo + i)) (wipe σ vs) H1 fun σ2 H2 => wipe σ2 vs = wipe σ vs ∧ tt σ2 H2 fun b H3 =>
      if b = true then te σ2 H3 fun y H4 => COut D y H4 (Pv D (i + 1)) else Pv D (i + 1) H3) (hd : ∀ D H1, H D = none → Pv D n H1 → Q (.ref D) H1) :
    LoopC (Itr lo n) g tt te vs σ H Q := fun D nD => lc_range (Pv D) (h0 D _ nD (same_new nD) upd_same) (fun i H1 hi p => hs D i H1 hi nD p) fun H1 p => hd D H1 nD p
theorem c_list {a : Addr} {xs : List V} {vs : List Nat} {tt : TT} (Pv : Addr → Nat → Hp → Prop) (h0 : ∀ D H1, H D = none → Same H H1 → H1 D = some (.lst []) → Pv D 0 H1) (hl : ∀ D i H1, i ≤ xs.length → H D = none → Pv D i H1 → SqL K H1 a xs)
    (hs : ∀ D i x H1, xs[i]? = some x → H D = none → Pv D i H1 → g x (wipe σ vs) H1 fun σ2 H2 => wipe σ2 vs = wipe σ vs ∧ tt σ2 H2 fun b H3 =>
      if b = true then te σ2 H3 fun y H4 => COut D y H4 (Pv D (i + 1)) else Pv D (i + 1) H3) (hd : ∀ D H1, H D = none → Pv D xs.length H1 → Q (.ref D) H1) :
    LoopC (Itl K a) g tt te vs σ H Q := fun D nD => lc_list (Pv D) (h0 D _ nD (same_new nD) upd_same) (fun i H1 hi p => hl D i H1 hi nD p) (fun i x H1 hi p => hs D i x H1 hi nD p) fun H1 p => hd D H1 nD p
theorem c_out {D : Addr} {acc : List V} {N : Hp → Prop} (e : H D = some (.lst acc)) (hz : acc.length < sizeLine) (h : ∀ H2, Chg D H H2 → H2 D = some (.lst (acc ++ [y])) → N H2) : COut D y H N := ⟨acc, e, hz, h _ chg_upd upd_same⟩
theorem s_while (W : Nat → L2.St → Hp → Prop) (m0 : Nat) (h0 : W m0 σ H) (hs : ∀ m σ H, W m σ H → c σ H fun b H1 => if b = true then KWh W m t D σ H1 else D.nx σ H1) : tWhile c t D σ H := ⟨W, ⟨m0, h0⟩, hs⟩
theorem k_while {W : Nat → L2.St → Hp → Prop} {m : Nat} (h : t ⟨fun σ' H' => ∃ m', m' < m ∧ W m' σ' H', D.rt, D.nx, fun σ' H' => ∃ m', m' < m ∧ W m' σ' H'⟩ σ H) : KWh W m t D σ H := ⟨_, fun _ _ q => q, h⟩
end
/-! ### a def of the top -/
structure DefOk (K : PySem.W.Frag) (mg : Str → Option Value) (x : Str) (st : Stmt) : Prop where
  ex : ∃ f fd, FunD K x x (defArgs st) (defBody st) (defScope st) [] [] f fd ∧ mg x = some (.ref f)
theorem cal_of {P : Program} {w : World} {K : PySem.W.Frag} {mg : Str → Option Value} {base : Heap} {x : Str} {st : Stmt} {N ps : List Str} {k : Nat} {sp : Sp} (F : DefOk K mg x st) (S : FnScope N ps (defScope st))
    (hb : ∀ f fd, FunD K x x (defArgs st) (defBody st) (defScope st) [] [] f fd → Binds K fd ps []) (len : ∀ vs H Q E, sp vs H Q E → vs.length = ps.length)
    (body : ∀ (f : Addr) (cdv : Value) (A : Around) (outer : List Env) (s : Shared) (H : Hp) (vs : List V) (Q : VK) (E : XK), Room k (A.deeper (envOfC x (defScope st) s.heap.objs.size f cdv)) → sp vs H Q E →
      ∃ t, PSs (cxOf CX0 P w K mg base N x (defScope st) f cdv A outer s H E).nox (defBody st) t ∧ t { nx := fun _ H' => Q .non H', rt := Q } (start N vs) H) : C8.Cal P w K mg base (k + 1) x sp [] := by
  obtain ⟨f, fd, F, hm⟩ := F.ex
  refine ⟨f, fd, ps, [], F.ok S len fun cdv A outer s H vs Q E hr h => ?_, hm, F.kp, hb f fd F, .nil⟩
  obtain ⟨t, h1, h2⟩ := body f cdv A outer s H vs Q E hr h
  exact ⟨t, PSs.nox h1, h2⟩
/-! ### calls without arguments -/
section
variable {X : Cx} {k j : Nat} {x : Str} {sp : Sp} {dvs : List V} {p pos : Pos}
theorem pe_c0 (c : C8.Cal X.prog X.w X.K X.mg X.base k x sp dvs) (hr : Room j X.A) (hk : k ≤ j) (hg : Gl X x) (hdb : (x == ("__debug__" : Str)) = false := by decide) :
    PE X (.Call (.Name x p) [] [] pos) (tCall sp dvs C8.E0 tNil) := by
  obtain ⟨f, fd, ps, ds, F, hm, kp, b, d⟩ := c.ex
  exact pe_call0 F (hr.mono hk) hg hm kp b d pass0 hdb
end
/-! ### a law's own hand of draws -/
def HandAt (H : Hp) (h d : Addr) : Prop := ∃ (n : Int) (ds : List Int), H h = some (.lst [.ref d, .int n]) ∧ 0 ≤ n ∧ H d = some (.lst (ds.map V.int))
/-- a draw below many -/
def spTake : Sp := fun vs H Q _ => ∃ (h d : Addr) (m : Int), vs = [.ref h, .int m] ∧ HandAt H h d ∧ 0 < m ∧ ∀ r H', 0 ≤ r → r < m → Chg h H H' → HandAt H' h d → Q (.int r) H'
theorem HandAt.ne {H : Hp} {h d : Addr} (x : HandAt H h d) : d ≠ h := by
  obtain ⟨n, ds, h1, h2, h3⟩ := x
  intro e
  subst e
  rw [h1] at h3
  cases ds <;> cases h3
theorem HandAt.same {H H' : Hp} {h d : Addr} (s : Same H H') (x : HandAt H h d) : HandAt H' h d := by
  obtain ⟨n, ds, h1, h2, h3⟩ := x
  exact ⟨n, ds, s _ _ h1, h2, s _ _ h3⟩
theorem HandAt.chg {H H' : Hp} {h d D : Addr} (c : Chg D H H') (x : HandAt H h d) (n1 : h ≠ D) (n2 : d ≠ D) : HandAt H' h d := by
  obtain ⟨n, ds, h1, h2, h3⟩ := x
  exact ⟨n, ds, c.at h1 n1, h2, c.at h3 n2⟩
theorem HandAt.new {H : Hp} {h d D : Addr} (x : HandAt H h d) (n : H D = none) : h ≠ D ∧ d ≠ D := by
  obtain ⟨_, ds, h1, h2, h3⟩ := x
  exact ⟨ne_of_none h1 n, ne_of_none h3 n⟩
/-- all but h is kept -/
def Keep (h : Addr) (H H' : Hp) : Prop := ∀ b o, b ≠ h → H b = some o → H' b = some o
theorem Keep.refl (h : Addr) (H : Hp) : Keep h H H := fun _ _ _ e => e
theorem Keep.trans {h : Addr} {H H1 H2 : Hp} (a : Keep h H H1) (b : Keep h H1 H2) : Keep h H H2 := fun c o n e => b c o n (a c o n e)
theorem Chg.keep {h : Addr} {H H' : Hp} (c : Chg h H H') : Keep h H H' := fun b o n e => c.at e n
theorem _root_.L2.Same.keep {h : Addr} {H H' : Hp} (c : Same H H') : Keep h H H' := fun b o _ e => c b o e
theorem Keep.chg {h D : Addr} {H H1 H2 : Hp} (k : Keep h H H1) (c : Chg D H1 H2) (n : H D = none) : Keep h H H2 := fun b o m e => c.at (k b o m e) (ne_of_none e n)
theorem Keep.free {h D : Addr} {H H1 : Hp} (k : Keep h H H1) (n : H1 D = none) (m : D ≠ h) : H D = none := by
  cases q : H D with
  | none => rfl
  | some o =>
    rw [k D o m q] at n
    cases n
theorem Keep.at {h b : Addr} {H H' : Hp} {o : HO} (c : Keep h H H') (e : H b = some o) (n : b ≠ h) : H' b = some o := c b o n e
theorem atI_of {α : Type} {xs : List α} {i : Int} {j : Nat} {v : α} (e : i = (j : Int)) (h : xs[j]? = some v) : atI xs i = some v := by
  subst e
  exact atI_nat h
/-! ### texts -/
theorem joinL_nil : ∀ ps : List (List Nat), TL.joinL [] ps = ps.flatten
  | [] => rfl
  | [p] => by simp [TL.joinL]
  | p :: q :: r => by
    show p ++ ([] ++ TL.joinL [] (q :: r)) = _
    rw [joinL_nil (q :: r)]
    simp
theorem join_empty (ys : List Str) : (Txt.join (Str.ofString "") ys).cps.toList = (ys.map fun y => y.cps.toList).flatten := by
  rw [TL.join_eq]
  have h := TL.tl_join (Str.ofString "") ys
  have e : TL.tl (Str.ofString "") = [] := by decide +kernel
  rw [e, joinL_nil] at h
  exact h
theorem str_len (z : Str) : z.length = z.cps.toList.length := by simp [Str.length]
theorem str_ext {x y : Str} (h : x.cps.toList = y.cps.toList) : x = y := by
  obtain ⟨a⟩ := x
  obtain ⟨b⟩ := y
  have e : a = b := Array.ext' h
  rw [e]
theorem app_len (x y : Str) : (x ++ y).length = x.length + y.length := by
  show (x.cps ++ y.cps).size = x.cps.size + y.cps.size
  simp
theorem app_tl (x y : Str) : (x ++ y).cps.toList = x.cps.toList ++ y.cps.toList := by
  show (x.cps ++ y.cps).toList = x.cps.toList ++ y.cps.toList
  simp
theorem repS_len (z : Str) (k : Int) : (repS z k).length = k.toNat * z.length := by
  unfold repS
  simp [Str.length, List.length_flatten, List.map_replicate, List.sum_replicate_nat]
theorem cutS_nat (z : Str) {i j : Nat} (hi : i ≤ z.length) (hj : j ≤ z.length) : (cutS z (some (i : Int)) (some (j : Int))).cps.toList = (z.cps.toList.drop i).take (j - i) := by
  unfold cutS
  rw [HT.sIx_nat, HT.sIx_nat, Nat.min_eq_left hi, Nat.min_eq_left hj]
theorem cutS_len2 (z : Str) (i : Nat) : (cutS z (some (i : Int)) (some ((i + 2 : Nat) : Int))).length = min (i + 2) z.length - min i z.length := by
  unfold cutS
  rw [HT.sIx_nat, HT.sIx_nat]
  show ((((z.cps.toList.drop (min i z.length)).take (min (i + 2) z.length - min i z.length)).toArray).size) = _
  rw [List.size_toArray, List.length_take, List.length_drop, Array.length_toList]
  show min _ (z.length - _) = _
  omega
/-- the place behind the longest run from i of signs in p -/
def runEnd (cs p : List Nat) (i : Nat) : Nat := i + ((cs.drop i).takeWhile fun c => decide (c ∈ p)).length
theorem runEnd_out {cs p : List Nat} {i : Nat} (h : cs.length ≤ i) : runEnd cs p i = i := by
  unfold runEnd
  rw [List.drop_of_length_le h]
  rfl
theorem runEnd_no {cs p : List Nat} {i c : Nat} (e : cs[i]? = some c) (h : c ∉ p) : runEnd cs p i = i := by
  unfold runEnd
  have hi : i < cs.length := (List.getElem?_eq_some_iff.mp e).1
  rw [List.drop_eq_getElem_cons hi, (List.getElem?_eq_some_iff.mp e).2, List.takeWhile_cons_of_neg (by simpa using h)]
  rfl
theorem runEnd_yes {cs p : List Nat} {i c : Nat} (e : cs[i]? = some c) (h : c ∈ p) : runEnd cs p i = runEnd cs p (i + 1) := by
  unfold runEnd
  have hi : i < cs.length := (List.getElem?_eq_some_iff.mp e).1
  rw [List.drop_eq_getElem_cons hi, (List.getElem?_eq_some_iff.mp e).2, List.takeWhile_cons_of_pos (by simpa using h), List.length_cons]
  omega
theorem runEnd_ge (cs p : List Nat) (i : Nat) : i ≤ runEnd cs p i := Nat.le_add_right _ _
theorem runEnd_le {cs p : List Nat} {i : Nat} (h : i ≤ cs.length) : runEnd cs p i ≤ cs.length := by
  unfold runEnd
  have h1 := (List.takeWhile_prefix (fun c => decide (c ∈ p)) (l := cs.drop i)).length_le
  rw [List.length_drop] at h1
  omega
theorem runEnd_all {cs p : List Nat} : runEnd cs p 0 = cs.length ↔ ∀ c ∈ cs, c ∈ p := by
  unfold runEnd
  rw [List.drop_zero, Nat.zero_add]
  induction cs with
  | nil => simp
  | cons a r ih =>
    by_cases h : a ∈ p
    · rw [List.takeWhile_cons_of_pos (by simpa using h), List.length_cons, List.length_cons, Nat.add_right_cancel_iff, ih]
      simp [h]
    · rw [List.takeWhile_cons_of_neg (by simpa using h)]
      simp [h]
theorem atI_cps {z : Str} {i : Nat} (h : i < z.length) : ∃ c, z.cps.toList[i]? = some c ∧ atI z.cps.toList (i : Int) = some c := by
  have h1 : i < z.cps.toList.length := by rw [← str_len]; exact h
  exact ⟨_, List.getElem?_eq_getElem h1, atI_nat (List.getElem?_eq_getElem h1)⟩
theorem small1000' {n : Nat} (h : n ≤ 100000) : n < sizeLine := Nat.lt_of_le_of_lt h (by decide)
theorem ixN_nat {n j : Nat} (h : j < n) : ixN n (j : Int) = some j := by
  unfold ixN
  rw [if_pos (by omega), if_pos (by omega)]
  simp
/-- one sign, compared -/
theorem sign_eq {c k : Nat} {y : Str} (hy : y = ⟨#[k]⟩) : decide (V.str ⟨#[c]⟩ = V.str y) = true ↔ c = k := by
  rw [decide_eq_true_iff, hy]
  constructor
  · intro e
    injection e with e
    injection e with e
    have e2 := congrArg Array.toList e
    simpa using e2
  · intro e
    rw [e]
theorem snoc_int {H : Hp} {d : Addr} {ds : List Int} {v : Int} (e : H d = some (.lst (ds.map V.int ++ [.int v]))) : ∃ ds' : List Int, H d = some (.lst (ds'.map V.int)) ∧ ds'.length = ds.length + 1 :=
  ⟨ds ++ [v], by rw [e, List.map_append]; rfl, by rw [List.length_append]; rfl⟩
/-- the items are texts of at most m signs -/
def strsB (m : Nat) (xs : List V) : Bool := xs.all fun x => match x with | .str y => decide (y.length ≤ m) | _ => false
theorem item_str (xs : List V) {m : Nat} (h : strsB m xs = true) {j : Nat} (hj : j < xs.length) : ∃ y : Str, xs[j]? = some (.str y) ∧ y.length ≤ m := by
  have h1 := List.all_eq_true.mp h xs[j] (List.getElem_mem hj)
  cases e : xs[j] with
  | str y =>
    rw [e] at h1
    exact ⟨y, by rw [List.getElem?_eq_getElem hj, e], of_decide_eq_true h1⟩
  | _ =>
    rw [e] at h1
    cases h1
theorem fn_of2 {P : Program} {w : World} {K : PySem.W.Frag} {mg : Str → Option Value} {base : Heap} {x : Str} {st : Stmt} {N ps : List Str} {k : Nat} {sp : Sp} {f : Addr} {fd : FuncData} (F : FunD K x x (defArgs st) (defBody st) (defScope st) [] [] f fd) (S : FnScope N ps (defScope st))
    (len : ∀ vs H Q E, sp vs H Q E → vs.length = ps.length)
    (body : ∀ (f : Addr) (cdv : Value) (A : Around) (outer : List Env) (s : Shared) (H : Hp) (vs : List V) (Q : VK) (E : XK), Room k (A.deeper (envOfC x (defScope st) s.heap.objs.size f cdv)) → sp vs H Q E →
      ∃ t, PSs (cxOf CX0 P w K mg base N x (defScope st) f cdv A outer s H E).nox (defBody st) t ∧ t { nx := fun _ H' => Q .non H', rt := Q } (start N vs) H) : FnOk P w K mg base CX0 (k + 1) f fd ps sp :=
  F.ok S len fun cdv A outer s H vs Q E hr h => by
    obtain ⟨t, h1, h2⟩ := body f cdv A outer s H vs Q E hr h
    exact ⟨t, PSs.nox h1, h2⟩
theorem lz {n : Nat} (h : n ≤ 1000) : n ≤ sizeLine := Nat.le_of_lt (small1000 h)
/-! ### more steps -/
def rStrI : List V → Hp → VK → Prop := fun xs H Q => ∃ i, xs = [.int i] ∧ i.natAbs.log2 < 1920 ∧ Q (.str (toString i)) H
theorem call_strI {X : Cx} : CallR X (.type "str") rStrI := call_str_int
def rLst (K : PySem.W.Frag) : List V → Hp → VK → Prop := fun xs H Q => ∃ p ys, xs = [.ref p] ∧ (SqL K H p ys ∨ SqT K H p ys) ∧ ∀ l, H l = none → Q (.ref l) (upd H l (.lst ys))
theorem call_lst {X : Cx} : CallR X (.type "list") (rLst X.K) := call_list_of
def rTpl (K : PySem.W.Frag) : List V → Hp → VK → Prop := fun xs H Q => ∃ p ys, xs = [.ref p] ∧ SqL K H p ys ∧ ∀ l, H l = none → Q (.ref l) (upd H l (.tup ys))
theorem log_small {n : Nat} (h : n < 10 ^ 40) : n.log2 < 1920 := by
  by_cases h0 : n = 0
  · subst h0
    decide
  · rw [Nat.log2_lt h0]
    exact Nat.lt_of_lt_of_le h (by decide +kernel)
def tJoined (ts : List TE) : TE := fun σ H Q => tJs ts Str.empty σ H fun out H1 => Q (.str out) H1
theorem pe_joined2 {X : Cx} {v1 v2 : Expr} {rest : List Expr} {ts : List TE} {pos : Pos} (h : PJ X (v1 :: v2 :: rest) ts) : PE X (.JoinedStr (v1 :: v2 :: rest) pos) (tJoined ts) := pe_joined h
def KJ (x : V) (acc : Str) (ts : List TE) (σ : L2.St) (H : Hp) (Q : Str → Hp → Prop) : Prop := ∃ y : Str, x = .str y ∧ (acc ++ y).length ≤ sizeLine ∧ tJs ts (acc ++ y) σ H Q
def KF (x : V) (H : Hp) (Q : VK) : Prop := (∃ y : Str, x = .str y ∧ y.length ≤ sizeLine ∧ Q (.str y) H) ∨ ∃ i : Int, x = .int i ∧ i.natAbs.log2 < 1920 ∧ Q (.str (toString i)) H
section
variable {K : PySem.W.Frag} {σ : L2.St} {H : Hp} {Q : VK} {QS : L2.St → Hp → Prop} {QJ : Str → Hp → Prop} {te : TE} {ts : List TE} {v : V} {g : TG}
theorem g_tup {u : TGs} {a : Addr} {xs : List V} {n : Nat} (hs : SqT K H a xs) (hl : xs.length = n) (h : u xs σ H QS) : gTup K n u (.ref a) σ H QS := ⟨a, xs, rfl, hs, hl, h⟩
theorem g_cons {u : TGs} {r : List V} (h : g v σ H fun σ' H' => u r σ' H' QS) : gCons g u (v :: r) σ H QS := ⟨v, r, rfl, h⟩
theorem g_nil (h : QS σ H) : gNil [] σ H QS := ⟨rfl, h⟩
theorem b_strI {i : Int} (hz : i.natAbs < 10 ^ 40) (h : Q (.str (toString i)) H) : rStrI [.int i] H Q := ⟨i, rfl, log_small hz, h⟩
theorem b_lst {a : Addr} {xs : List V} (hs : SqL K H a xs) (h : ∀ p H2, H p = none → Same H H2 → H2 p = some (.lst xs) → Q (.ref p) H2) : rLst K [.ref a] H Q := ⟨a, xs, rfl, .inl hs, new_same h⟩
theorem e_joined (h : tJs ts Str.empty σ H fun out H1 => Q (.str out) H1) : tJoined ts σ H Q := h
theorem j_nil {acc : Str} (h : QJ acc H) : tJs [] acc σ H QJ := h
theorem j_cons {acc : Str} (h : te σ H fun x H1 => KJ x acc ts σ H1 QJ) : tJs (te :: ts) acc σ H QJ := h
theorem k_j {acc y : Str} (hz : (acc ++ y).length ≤ sizeLine) (h : tJs ts (acc ++ y) σ H QJ) : KJ (.str y) acc ts σ H QJ := ⟨y, rfl, hz, h⟩
theorem e_fmt (h : te σ H fun x H1 => KF x H1 Q) : tFmt te σ H Q := h
theorem k_fS {y : Str} (hz : y.length ≤ sizeLine) (h : Q (.str y) H) : KF (.str y) H Q := .inl ⟨y, rfl, hz, h⟩
theorem k_fI {i : Int} (hz : i.natAbs < 10 ^ 40) (h : Q (.str (toString i)) H) : KF (.int i) H Q := .inr ⟨i, rfl, log_small hz, h⟩
end
/-! ### data of tuples -/
mutual
inductive Tp (H : Hp) : V → PyData → Prop
  | non : Tp H .non .none
  | bl (b : Bool) : Tp H (.bl b) (.bool b)
  | int (i : Int) : Tp H (.int i) (.int i)
  | str (x : Str) : Tp H (.str x) (.str x)
  | tup {a : Addr} {xs : List V} {ds : List PyData} : H a = some (.tup xs) → TpAll H xs ds → Tp H (.ref a) (.tuple ds)
inductive TpAll (H : Hp) : List V → List PyData → Prop
  | nil : TpAll H [] []
  | cons {v : V} {vs : List V} {d : PyData} {ds : List PyData} : Tp H v d → TpAll H vs ds → TpAll H (v :: vs) (d :: ds)
end
/-- the tuples stay -/
def TK (H H' : Hp) : Prop := ∀ a xs, H a = some (.tup xs) → H' a = some (.tup xs)
theorem TK.refl (H : Hp) : TK H H := fun _ _ e => e
theorem TK.trans {H H1 H2 : Hp} (a : TK H H1) (b : TK H1 H2) : TK H H2 := fun c xs e => b c xs (a c xs e)
theorem _root_.L2.Same.tk {H H' : Hp} (s : Same H H') : TK H H' := fun a xs e => s a _ e
theorem Chg.tk {l : Addr} {H H' : Hp} {ys : List V} (c : Chg l H H') (e : H l = some (.lst ys)) : TK H H' := fun a xs h => c.at h (ne_of h e (by intro z; cases z))
theorem Keep.tk {h : Addr} {H H' : Hp} {ys : List V} (c : Keep h H H') (e : H h = some (.lst ys)) : TK H H' := fun a xs q => c.at q (ne_of q e (by intro z; cases z))
theorem HandAt.keep_tk {h d : Addr} {H H' : Hp} (x : HandAt H h d) (c : Keep h H H') : TK H H' := by
  obtain ⟨n, ds, h1, _, _⟩ := x
  exact c.tk h1
theorem HandAt.chg_tk {h d : Addr} {H H' : Hp} (x : HandAt H h d) (c : Chg h H H') : TK H H' := x.keep_tk c.keep
mutual
theorem Tp.tk {H H' : Hp} (k : TK H H') : ∀ {d : PyData} {v : V}, Tp H v d → Tp H' v d
  | .none, _, h => by cases h; exact .non
  | .bool b, _, h => by cases h; exact .bl b
  | .int i, _, h => by cases h; exact .int i
  | .str x, _, h => by cases h; exact .str x
  | .tuple ds, _, h => by
    cases h with
    | tup e r => exact .tup (k _ _ e) (TpAll.tk k r)
  | .list _, _, h => by cases h
  | .dict _, _, h => by cases h
theorem TpAll.tk {H H' : Hp} (k : TK H H') : ∀ {ds : List PyData} {vs : List V}, TpAll H vs ds → TpAll H' vs ds
  | [], _, h => by cases h; exact .nil
  | d :: ds, _, h => by
    cases h with
    | cons h1 h2 => exact .cons (Tp.tk k h1) (TpAll.tk k h2)
end
mutual
theorem Tp.dp {K : PySem.W.Frag} {H : Hp} : ∀ {d : PyData} {v : V}, Tp H v d → Dp K H v d
  | .none, _, h => by cases h; exact .non
  | .bool b, _, h => by cases h; exact .bl b
  | .int i, _, h => by cases h; exact .int i
  | .str x, _, h => by cases h; exact .str x
  | .tuple ds, _, h => by
    cases h with
    | tup e r => exact .tup (tup_of e) (TpAll.dp r)
  | .list _, _, h => by cases h
  | .dict _, _, h => by cases h
theorem TpAll.dp {K : PySem.W.Frag} {H : Hp} : ∀ {ds : List PyData} {vs : List V}, TpAll H vs ds → DpAll K H vs ds
  | [], _, h => by cases h; exact .nil
  | d :: ds, _, h => by
    cases h with
    | cons h1 h2 => exact .cons (Tp.dp h1) (TpAll.dp h2)
end
theorem TpAll.get {H : Hp} : ∀ {vs : List V} {ds : List PyData} {i : Nat} {d : PyData}, TpAll H vs ds → ds[i]? = some d → ∃ v, vs[i]? = some v ∧ Tp H v d
  | _, _, _, _, .nil, h => by cases h
  | _, _, 0, _, .cons h1 _, h => by
    cases h
    exact ⟨_, rfl, h1⟩
  | _, _, i + 1, _, .cons _ h2, h => by
    obtain ⟨v, e, q⟩ := TpAll.get h2 (i := i) h
    exact ⟨v, e, q⟩
theorem TpAll.length {H : Hp} : ∀ {vs : List V} {ds : List PyData}, TpAll H vs ds → vs.length = ds.length
  | _, _, .nil => rfl
  | _, _, .cons _ h => by rw [List.length_cons, List.length_cons, h.length]
/-- a def that is never called so -/
theorem cal_never {P : Program} {w : World} {K : PySem.W.Frag} {mg : Str → Option Value} {base : Heap} {x : Str} {st : Stmt} {ps : List Str} {k : Nat} {sp : Sp} (F : DefOk K mg x st)
    (hb : ∀ f fd, FunD K x x (defArgs st) (defBody st) (defScope st) [] [] f fd → Binds K fd ps []) (no : ∀ vs H Q E, ¬ sp vs H Q E) : C8.Cal P w K mg base k x sp [] := by
  obtain ⟨f, fd, F, hm⟩ := F.ex
  exact ⟨f, fd, ps, [], ⟨fun vs H Q E h => absurd h (no _ _ _ _), fun A outer s H args us vs Q E hr he hb hv h => absurd h (no _ _ _ _)⟩, hm, F.kp, hb f fd F, .nil⟩
end Wy
open Wy
namespace W6
open PySem PySem.Spec PyProof.Rows L2 Wy
theorem uu {a c : Nat} (h : a + 64 < c) : a + 1 < c := by omega
/-! ### a table of the top: texts to tuples -/
def rKd (K : PySem.W.Frag) (d : Addr) : R2 := fun x y H Q => ∃ (z : Str) (u0 : Value) (v0 : V), x = .ref d ∧ y = .str z ∧ PySem.W.nsIn K d z = some (some u0) ∧ RelV v0 u0 ∧ Q v0 H
theorem pe_kd {X : Cx} {d : Addr} {es : Array DictEntry} {n : Nat} {o i : Expr} {pos : Pos} {td ty : TE} (D : KDict X.K X.w d es n) (ho : PE X o td) (hi : PE X i ty) (hs : NoSl i) : PE X (.Subscript o i pos) (tOp (rKd X.K d) td ty) := by
  refine ⟨fun pins s σ H Q I h => ?_⟩
  refine subD_of PySem.F.slot_dict_getitem.lookup hs (thn (ho.run pins s σ H _ I h) fun u s1 ⟨x, H1, I1, rx, q1⟩ => thn (hi.run pins s1 σ H1 _ I1 q1) fun iv s2 ⟨y, H2, I2, ry, q2⟩ => ?_)
  have q3 := q2
  obtain ⟨z, u0, v0, ex, ey, e, r, q⟩ := q2
  subst ex
  have ru : u = Value.ref d := rx
  subst ru
  exact ⟨kd_type D I2, op_item_kd D pins s2 σ H2 (.ref d) y _ iv Q I2 rfl ry q3⟩
def tupAt (K : PySem.W.Frag) (o : Option Obj) (vs : List V) : Bool := match o with
  | some ⟨.type c, none, .seq its _, _⟩ => decide (c = "tuple") && (decide (its.size ≤ sizeLine) && He.relAll vs its.toList)
  | _ => false
def keyB (K : PySem.W.Frag) (d : Addr) (z : Str) (vs : List V) : Bool := match PySem.W.nsIn K d z with
  | some (some (.ref t)) => tupAt K (K.lookup t) vs
  | _ => false
theorem tupAt_ok {K : PySem.W.Frag} {t : Addr} {vs : List V} (h : tupAt K (K.lookup t) vs = true) (H : Hp) : SqT K H t vs := by
  unfold tupAt at h
  split at h
  · rename_i c its n sl e
    obtain ⟨h1, h2⟩ := He.ba h
    obtain ⟨h3, h4⟩ := He.ba h2
    exact .inr ⟨_, its, n, e, congrArg Value.type (of_decide_eq_true h1), rfl, of_decide_eq_true h3, He.relAll_ok h4⟩
  · cases h
theorem keyB_ok {K : PySem.W.Frag} {d : Addr} {z : Str} {vs : List V} (h : keyB K d z vs = true) : ∃ t, PySem.W.nsIn K d z = some (some (.ref t)) ∧ ∀ H, SqT K H t vs := by
  unfold keyB at h
  split at h
  · rename_i t e
    exact ⟨t, e, fun H => tupAt_ok h H⟩
  · cases h
theorem o_kd {K : PySem.W.Frag} {H : Hp} {Q : VK} {d t : Addr} {z : Str} (e : PySem.W.nsIn K d z = some (some (.ref t))) (q : Q (.ref t) H) : rKd K d (.ref d) (.str z) H Q := ⟨z, _, .ref t, rfl, rfl, e, rfl, q⟩
def rTup (K : PySem.W.Frag) : List V → Hp → VK → Prop := fun xs H Q => ∃ p ys, xs = [.ref p] ∧ ((SqL K H p ys ∧ ∀ l, H l = none → Q (.ref l) (upd H l (.tup ys))) ∨ (SqT K H p ys ∧ Q (.ref p) H))
theorem call_tup2 {X : Cx} : CallR X (.type "tuple") (rTup X.K) := call_tuple_of
theorem b_tup {K : PySem.W.Frag} {H : Hp} {Q : VK} {a : Addr} {xs : List V} (hs : SqL K H a xs) (h : ∀ p H2, H p = none → Same H H2 → H2 p = some (.tup xs) → Q (.ref p) H2) : rTup K [.ref a] H Q := ⟨a, xs, rfl, .inl ⟨hs, new_same h⟩⟩
end W6
namespace WD
open PySem PySem.Spec PyProof.Rows L2 Wy
theorem uu {a c : Nat} (h : a + 64 < c) : a + 1 < c := by omega
/-! ### dicts of texts -/
def rLnD : List V → Hp → VK → Prop := fun xs H Q => ∃ a kvs, xs = [.ref a] ∧ H a = some (.dK kvs) ∧ Q (.int (kvs.length : Nat)) H
theorem call_lenD {X : Cx} : CallR X (.builtin "len") rLnD := by
  intro pins s σ H xs us Q I r h
  obtain ⟨p, kvs, rfl, hk, q⟩ := h
  obtain ⟨u, eu, rx⟩ := vals1 r
  subst eu
  obtain rfl : u = Value.ref p := rx
  exact d_len I (.inl hk) fun t s' I' => ⟨.int (kvs.length : Nat), H, I', ⟨t, rfl⟩, q⟩
section
variable {K : PySem.W.Frag} {σ : L2.St} {H : Hp} {Q : VK} {td ty tv : TE} {D : Ends}
def KD (x y : V) (H : Hp) (Q : VK) : Prop := ∃ a v, x = .ref a ∧ DGet H a y (some v) ∧ Q v H
def KP (v x y : V) (σ : L2.St) (H : Hp) (N : L2.St → Hp → Prop) : Prop := ∃ a H4, x = .ref a ∧ DPut H a y v H4 ∧ N σ H4
theorem e_dnew (h : ∀ p H2, H p = none → Same H H2 → H2 p = some (.dK []) → Q (.ref p) H2) : tDNewK σ H Q := new_same h
theorem e_dget (h : td σ H fun x H1 => ty σ H1 fun y H2 => KD x y H2 Q) : tDGet td ty σ H Q := h
theorem k_d {a : Addr} {kvs : List (Key × V)} {n : Str} {v : V} (e : H a = some (.dK kvs)) (g : valV kvs (.inr n) = some v) (h : Q v H) : KD (.ref a) (.str n) H Q :=
  ⟨a, v, rfl, g ▸ DGet.k (k := .inr n) e, h⟩
theorem s_dput (h : tv σ H fun v H1 => td σ H1 fun x H2 => ty σ H2 fun y H3 => KP v x y σ H3 D.nx) : sDPut td ty tv D σ H := h
theorem k_p {a : Addr} {kvs : List (Key × V)} {n : Str} {v : V} {N : L2.St → Hp → Prop} (e : H a = some (.dK kvs)) (hl : kvs.length < sizeLine) (h : ∀ H2, Chg a H H2 → H2 a = some (.dK (putK kvs (.inr n) v)) → N σ H2) :
    KP v (.ref a) (.str n) σ H N := ⟨a, _, rfl, DPut.k (k := .inr n) e hl, h _ chg_upd upd_same⟩
theorem b_lenD {a : Addr} {kvs : List (Key × V)} (e : H a = some (.dK kvs)) (h : Q (.int (kvs.length : Nat)) H) : rLnD [.ref a] H Q := ⟨a, kvs, rfl, e, h⟩
theorem b_lstD {a : Addr} {kvs : List (Key × V)} (e : H a = some (.dK kvs)) (h : ∀ p H2, H p = none → Same H H2 → H2 p = some (.lst (kvs.map fun kv => kV kv.1)) → Q (.ref p) H2) : rListD [.ref a] H Q := ⟨a, kvs, rfl, e, new_same h⟩
def rTup (K : PySem.W.Frag) : List V → Hp → VK → Prop := fun xs H Q => ∃ p ys, xs = [.ref p] ∧ ((SqL K H p ys ∧ ∀ l, H l = none → Q (.ref l) (upd H l (.tup ys))) ∨ (SqT K H p ys ∧ Q (.ref p) H))
theorem call_tup2 {X : Cx} : CallR X (.type "tuple") (rTup X.K) := call_tuple_of
theorem b_tup {a : Addr} {xs : List V} (hs : SqL K H a xs) (h : ∀ p H2, H p = none → Same H H2 → H2 p = some (.tup xs) → Q (.ref p) H2) : rTup K [.ref a] H Q := ⟨a, xs, rfl, .inl ⟨hs, new_same h⟩⟩
theorem m_idx {a : Addr} {ys : List V} {y : V} {j : Nat} {z : V} (hs : SqL K H a ys) (f1 : flatV y = true) (f2 : ys.all flatV = true) (g : ys[j]? = some z) (e : eqV z y = true)
    (no : ∀ (m : Nat) (z' : V), m < j → ys[m]? = some z' → eqV z' y = false) (h : Q (.int (j : Nat)) H) : rIndex K (.ref a) [y] H Q := ⟨a, ys, y, j, z, rfl, rfl, hs, f1, f2, g, e, no, h⟩
end
/-- the names with their values, as far as there are values -/
def kv (ns : List Str) (vs : List V) : List (Key × V) := (ns.zip vs).map fun p => (.inr p.1, p.2)
theorem kv_len {ns : List Str} {vs : List V} (h : vs.length ≤ ns.length) : (kv ns vs).length = vs.length := by
  unfold kv
  rw [List.length_map, List.length_zip]
  omega
theorem kv_get : ∀ {ns : List Str} {vs : List V} {j : Nat} {n : Str} {v : V}, ns.Nodup → ns[j]? = some n → vs[j]? = some v → valV (kv ns vs) (.inr n) = some v
  | [], _, _, _, _, _, h, _ => by cases h
  | _ :: _, [], _, _, _, _, _, h => by cases h
  | m :: ns, u :: vs, 0, n, v, _, h1, h2 => by
    cases h1
    cases h2
    exact valV_pos (p := (Sum.inr m, u)) rfl
  | m :: ns, u :: vs, j + 1, n, v, hd, h1, h2 => by
    have h1 : ns[j]? = some n := h1
    have h2 : vs[j]? = some v := h2
    have hd := List.nodup_cons.mp hd
    have ne : ¬ (Sum.inr m : Key) = Sum.inr n := fun e => hd.1 (by
      have e2 : m = n := Sum.inr.inj e
      rw [e2]
      exact List.mem_of_getElem? h1)
    exact (valV_neg (p := (Sum.inr m, u)) ne).trans (kv_get hd.2 h1 h2)
theorem zip_fst : ∀ (ns : List Str) (vs : List V), (ns.zip vs).map Prod.fst = ns.take vs.length
  | [], _ => by simp
  | _ :: _, [] => rfl
  | n :: ns, _ :: vs => congrArg (n :: ·) (zip_fst ns vs)
theorem zip_cut : ∀ (ns : List Str) (vs : List V), ns.zip vs = (ns.take vs.length).zip vs
  | [], _ => by simp
  | _ :: _, [] => rfl
  | n :: ns, v :: vs => congrArg ((n, v) :: ·) (zip_cut ns vs)
theorem kv_any {ns : List Str} {vs : List V} {n : Str} : ((kv ns vs).any fun p => decide (p.1 = (.inr n : Key))) = true ↔ n ∈ (ns.take vs.length) := by
  unfold kv
  rw [List.any_map, List.any_eq_true]
  constructor
  · rintro ⟨⟨a, b⟩, hm, h⟩
    have h : (Sum.inr a : Key) = Sum.inr n := of_decide_eq_true h
    have e : a = n := Sum.inr.inj h
    subst e
    have : a ∈ (ns.zip vs).map Prod.fst := List.mem_map.mpr ⟨_, hm, rfl⟩
    rw [zip_fst] at this
    exact this
  · intro h
    have : n ∈ (ns.zip vs).map Prod.fst := by
      rw [zip_fst]
      exact h
    obtain ⟨⟨a, b⟩, hm, e⟩ := List.mem_map.mp this
    exact ⟨(a, b), hm, decide_eq_true (by rw [← e])⟩
theorem kv_new {ns : List Str} {vs : List V} {n : Str} {v : V} (hd : ns.Nodup) (h : ns[vs.length]? = some n) : putK (kv ns vs) (.inr n) v = kv ns (vs ++ [v]) := by
  have no : n ∉ ns.take vs.length := by
    intro hm
    obtain ⟨i, hi, e⟩ := List.getElem_of_mem hm
    obtain ⟨hl, e2⟩ := List.getElem?_eq_some_iff.mp h
    rw [List.length_take] at hi
    rw [List.getElem_take] at e
    have := (List.getElem_inj hd).mp (e.trans e2.symm)
    omega
  unfold putK
  rw [if_neg (fun e => no (kv_any.mp e))]
  unfold kv
  obtain ⟨hl, e2⟩ := List.getElem?_eq_some_iff.mp h
  have e3 : ns = ns.take vs.length ++ n :: ns.drop (vs.length + 1) := by
    rw [← e2, List.getElem_cons_drop, List.take_append_drop]
  have e4 : ns.zip vs = (ns.take vs.length).zip vs := zip_cut ns vs
  have l1 : (ns.take vs.length).length = vs.length := by rw [List.length_take]; omega
  have e5 : ns.zip (vs ++ [v]) = (ns.take vs.length).zip vs ++ [(n, v)] := by
    conv => lhs; rw [e3]
    rw [List.zip_append l1]
    simp
  rw [e4, e5, List.map_append]
  rfl
theorem kv_set : ∀ {ns : List Str} {vs : List V} {j : Nat} {n : Str} {v : V}, ns.Nodup → ns[j]? = some n → j < vs.length → (kv ns vs).map (fun p => if p.1 = (.inr n : Key) then (p.1, v) else p) = kv ns (vs.set j v)
  | [], _, _, _, _, _, h, _ => by cases h
  | _ :: _, [], _, _, _, _, _, h => absurd h (Nat.not_lt_zero _)
  | m :: ns, u :: vs, 0, n, v, hd, h1, h2 => by
    cases h1
    have hd := List.nodup_cons.mp hd
    show (if (Sum.inr m : Key) = Sum.inr m then _ else _) :: _ = (_ :: _ : List (Key × V))
    rw [if_pos rfl]
    refine congrArg (_ :: ·) ?_
    refine (List.map_congr_left fun p hp => ?_).trans (List.map_id _)
    obtain ⟨⟨a, b⟩, hm, e⟩ := List.mem_map.mp hp
    rw [if_neg ?_]
    · rfl
    · rw [← e]
      intro e2
      exact hd.1 (Sum.inr.inj e2 ▸ (List.of_mem_zip hm).1)
  | m :: ns, u :: vs, j + 1, n, v, hd, h1, h2 => by
    have h1 : ns[j]? = some n := h1
    have hd := List.nodup_cons.mp hd
    have ne : ¬ (Sum.inr m : Key) = Sum.inr n := fun e => hd.1 (by
      have e2 : m = n := Sum.inr.inj e
      rw [e2]
      exact List.mem_of_getElem? h1)
    show (if (Sum.inr m : Key) = Sum.inr n then _ else _) :: _ = (_ :: _ : List (Key × V))
    rw [if_neg ne]
    exact congrArg (_ :: ·) (kv_set hd.2 h1 (Nat.lt_of_succ_lt_succ h2))
theorem kv_put {ns : List Str} {vs : List V} {j : Nat} {n : Str} {v : V} (hd : ns.Nodup) (h : ns[j]? = some n) (hj : j < vs.length) : putK (kv ns vs) (.inr n) v = kv ns (vs.set j v) := by
  obtain ⟨hl, e2⟩ := List.getElem?_eq_some_iff.mp h
  have hm : n ∈ ns.take vs.length := by
    rw [← e2]
    exact List.mem_take_iff_getElem.mpr ⟨j, by omega, rfl⟩
  unfold putK
  rw [if_pos (kv_any.mpr hm)]
  exact kv_set hd h hj
theorem kv_keys {ns : List Str} {vs : List V} (h : vs.length = ns.length) : (kv ns vs).map (fun p => kV p.1) = ns.map V.str := by
  unfold kv
  rw [List.map_map]
  have : ((fun p : Key × V => kV p.1) ∘ fun p : Str × V => ((.inr p.1 : Key), p.2)) = V.str ∘ Prod.fst := rfl
  rw [this, ← List.map_map, List.map_fst_zip (by omega)]
/-! ### the questions and their answers -/
inductive X9 where
  | num (n : Int)
  | var (k : Nat) (p : Int)
  | item (j : Nat) (i : X9) (p : Int)
abbrev nm (ns : List Str) (k : Nat) : Str := ns.getD k ""
def X9.d (ns : List Str) : X9 → PyData
  | .num n => .tuple [.str "num", .int n]
  | .var k p => .tuple [.str "var", .str (nm ns k), .int p]
  | .item j i p => .tuple [.str "item", .str (nm ns (4 + j)), i.d ns, .int p]
def X9.plain : X9 → Prop
  | .num _ => True
  | .var k _ => k < 4
  | .item _ _ _ => False
def X9.good : X9 → Prop
  | .num _ => True
  | .var k _ => k < 4
  | .item j i _ => j < 2 ∧ i.plain
theorem X9.plain.good {e : X9} (h : e.plain) : e.good := by
  cases e with
  | num _ => exact True.intro
  | var _ _ => exact h
  | item _ _ _ => exact h.elim
def X9.dep : X9 → Nat
  | .item _ _ _ => 1
  | _ => 0
theorem X9.plain.dep {e : X9} (h : e.plain) : e.dep = 0 := by
  cases e with
  | num _ => rfl
  | var _ _ => rfl
  | item _ _ _ => exact h.elim
theorem X9.dep_le (e : X9) : e.dep < 2 := by
  cases e <;> simp [X9.dep]
def X9.ev (is : List Int) (ls : List (List Int)) : X9 → Option Int
  | .num n => some n
  | .var k p => some (is.getD k 0 + p)
  | .item j i p => match i.ev is ls with
    | none => none
    | some a => if 0 ≤ a ∧ a < (ls.getD j []).length then some ((ls.getD j []).getD a.toNat 0 + p) else none
def oI : Option Int → V
  | none => .non
  | some i => .int i
def oB : Option Bool → V
  | none => .non
  | some b => .bl b
theorem X9.plain.ev {e : X9} (h : e.plain) (is : List Int) (ls : List (List Int)) : ∃ i, e.ev is ls = some i := by
  cases e with
  | num n => exact ⟨n, rfl⟩
  | var k p => exact ⟨_, rfl⟩
  | item _ _ _ => exact h.elim
abbrev SG : List Str := ["<", "<=", ">", ">=", "==", "!="]
def cmpB : Nat → Int → Int → Bool
  | 0, a, b => decide (a < b)
  | 1, a, b => decide (a ≤ b)
  | 2, a, b => decide (a > b)
  | 3, a, b => decide (a ≥ b)
  | 4, a, b => decide (a = b)
  | _, a, b => !decide (a = b)
inductive Cn where
  | cmp (k : Nat) (l r : X9)
  | no (c : Cn)
  | jn (o : Bool) (cs : List Cn)
abbrev jw (o : Bool) : Str := if o then "or" else "and"
mutual
def Cn.d (ns : List Str) : Cn → PyData
  | .cmp k l r => .tuple [.str "cmp", .str (SG.getD k ""), l.d ns, r.d ns]
  | .no c => .tuple [.str "not", c.d ns]
  | .jn o cs => .tuple [.str (jw o), .tuple (Cn.ds ns cs)]
def Cn.ds (ns : List Str) : List Cn → List PyData
  | [] => []
  | c :: cs => c.d ns :: Cn.ds ns cs
end
mutual
def Cn.ok : Nat → Cn → Prop
  | _, .cmp k l r => k < 6 ∧ l.good ∧ r.good
  | 0, .no _ => False
  | n + 1, .no c => c.ok n
  | 0, .jn _ _ => False
  | n + 1, .jn _ cs => Cn.oks n cs
def Cn.oks : Nat → List Cn → Prop
  | _, [] => True
  | n, c :: cs => c.ok n ∧ Cn.oks n cs
end
def cmpO (k : Nat) : Option Int → Option Int → Option Bool
  | some a, some b => some (cmpB k a b)
  | _, _ => none
mutual
def Cn.ev (is : List Int) (ls : List (List Int)) : Cn → Option Bool
  | .cmp k l r => cmpO k (l.ev is ls) (r.ev is ls)
  | .no c => (c.ev is ls).map fun b => !b
  | .jn o cs => Cn.evs is ls o cs
def Cn.evs (is : List Int) (ls : List (List Int)) (o : Bool) : List Cn → Option Bool
  | [] => some (!o)
  | c :: cs => match c.ev is ls with
    | none => none
    | some b => if b = o then some b else Cn.evs is ls o cs
end
theorem Cn.ds_get {ns : List Str} : ∀ {cs : List Cn} {i : Nat} {c : Cn}, cs[i]? = some c → (Cn.ds ns cs)[i]? = some (c.d ns)
  | [], _, _, h => by cases h
  | c :: cs, 0, _, h => by
    cases h
    rfl
  | c :: cs, i + 1, _, h => by
    have h : cs[i]? = some _ := h
    exact Cn.ds_get (cs := cs) (i := i) h
theorem Cn.ds_len {ns : List Str} : ∀ {cs : List Cn}, (Cn.ds ns cs).length = cs.length
  | [] => rfl
  | c :: cs => congrArg (· + 1) Cn.ds_len
theorem Cn.ds_snoc {ns : List Str} {c : Cn} : ∀ {cs : List Cn}, Cn.ds ns (cs ++ [c]) = Cn.ds ns cs ++ [c.d ns]
  | [] => rfl
  | _ :: _ => congrArg (_ :: ·) Cn.ds_snoc
theorem Cn.oks_get {n : Nat} : ∀ {cs : List Cn} {i : Nat} {c : Cn}, Cn.oks n cs → cs[i]? = some c → c.ok n
  | [], _, _, _, h => by cases h
  | c :: cs, 0, _, g, h => by
    cases h
    exact g.1
  | c :: cs, i + 1, _, g, h => by
    have h : cs[i]? = some _ := h
    exact Cn.oks_get g.2 h
theorem Cn.oks_snoc {n : Nat} {c : Cn} : ∀ {cs : List Cn}, Cn.oks n cs → c.ok n → Cn.oks n (cs ++ [c])
  | [], _, h => ⟨h, True.intro⟩
  | _ :: _, g, h => ⟨g.1, Cn.oks_snoc g.2 h⟩
theorem Cn.evs_drop {is : List Int} {ls : List (List Int)} {o : Bool} {cs : List Cn} {i : Nat} {c : Cn} (h : cs[i]? = some c) :
    Cn.evs is ls o (cs.drop i) = match c.ev is ls with | none => none | some b => if b = o then some b else Cn.evs is ls o (cs.drop (i + 1)) := by
  obtain ⟨hl, e⟩ := List.getElem?_eq_some_iff.mp h
  rw [List.drop_eq_getElem_cons hl, e]
  rfl
/-! ### the parts of the data -/
theorem tp4 {H : Hp} {v : V} {d1 d2 d3 d4 : PyData} (h : Tp H v (.tuple [d1, d2, d3, d4])) : ∃ a v1 v2 v3 v4, v = .ref a ∧ H a = some (.tup [v1, v2, v3, v4]) ∧ Tp H v1 d1 ∧ Tp H v2 d2 ∧ Tp H v3 d3 ∧ Tp H v4 d4 := by
  cases h with
  | tup e r =>
    cases r with | cons h1 r => cases r with | cons h2 r => cases r with | cons h3 r => cases r with | cons h4 r =>
      cases r
      exact ⟨_, _, _, _, _, rfl, e, h1, h2, h3, h4⟩
theorem tp3 {H : Hp} {v : V} {d1 d2 d3 : PyData} (h : Tp H v (.tuple [d1, d2, d3])) : ∃ a v1 v2 v3, v = .ref a ∧ H a = some (.tup [v1, v2, v3]) ∧ Tp H v1 d1 ∧ Tp H v2 d2 ∧ Tp H v3 d3 := by
  cases h with
  | tup e r =>
    cases r with | cons h1 r => cases r with | cons h2 r => cases r with | cons h3 r =>
      cases r
      exact ⟨_, _, _, _, rfl, e, h1, h2, h3⟩
theorem tp2 {H : Hp} {v : V} {d1 d2 : PyData} (h : Tp H v (.tuple [d1, d2])) : ∃ a v1 v2, v = .ref a ∧ H a = some (.tup [v1, v2]) ∧ Tp H v1 d1 ∧ Tp H v2 d2 := by
  cases h with
  | tup e r =>
    cases r with | cons h1 r => cases r with | cons h2 r =>
      cases r
      exact ⟨_, _, _, rfl, e, h1, h2⟩
theorem tpL {H : Hp} {v : V} {ds : List PyData} (h : Tp H v (.tuple ds)) : ∃ a vs, v = .ref a ∧ H a = some (.tup vs) ∧ TpAll H vs ds := by
  cases h with
  | tup e r => exact ⟨_, _, rfl, e, r⟩
theorem tp_str {H : Hp} {v : V} {x : Str} (h : Tp H v (.str x)) : v = .str x := by
  cases h
  rfl
theorem tp_int {H : Hp} {v : V} {x : Int} (h : Tp H v (.int x)) : v = .int x := by
  cases h
  rfl
theorem tpSnoc {H : Hp} {v : V} {d : PyData} : ∀ {vs : List V} {ds : List PyData}, TpAll H vs ds → Tp H v d → TpAll H (vs ++ [v]) (ds ++ [d])
  | _, _, .nil, h => .cons h .nil
  | _, _, .cons h1 h2, h => .cons h1 (tpSnoc h2 h)
/-! ### the variables -/
def CellAt (H : Hp) (is : List Int) (ls : List (List Int)) (j : Nat) (v : V) : Prop :=
  (∃ x, is[j]? = some x ∧ v = .int x) ∨ ∃ a xs, 4 ≤ j ∧ ls[j - 4]? = some xs ∧ v = .ref a ∧ H a = some (.lst (xs.map V.int))
theorem CellAt.same {H H' : Hp} {is : List Int} {ls : List (List Int)} {j : Nat} {v : V} (s : Same H H') (c : CellAt H is ls j v) : CellAt H' is ls j v := by
  rcases c with c | ⟨a, xs, h1, h2, h3, h4⟩
  · exact .inl c
  · exact .inr ⟨a, xs, h1, h2, h3, s _ _ h4⟩
def EnvAt (H : Hp) (p : Addr) (ns : List Str) (is : List Int) (ls : List (List Int)) : Prop :=
  is.length = 4 ∧ ls.length = 2 ∧ ns.length = 6 ∧ ns.Nodup ∧ ∃ vs : List V, vs.length = 6 ∧ H p = some (.dK (kv ns vs)) ∧ ∀ j v, vs[j]? = some v → CellAt H is ls j v
theorem EnvAt.same {H H' : Hp} {p : Addr} {ns : List Str} {is : List Int} {ls : List (List Int)} (s : Same H H') (e : EnvAt H p ns is ls) : EnvAt H' p ns is ls := by
  obtain ⟨h1, h2, h3, h4, vs, h5, h6, h7⟩ := e
  exact ⟨h1, h2, h3, h4, vs, h5, s _ _ h6, fun j v g => (h7 j v g).same s⟩
theorem nm_at {ns : List Str} {k : Nat} (h : k < ns.length) : ns[k]? = some (nm ns k) := by
  unfold nm
  rw [List.getD_eq_getElem?_getD, List.getElem?_eq_getElem h]
  rfl
/-- a number out of the variables -/
theorem EnvAt.int {H : Hp} {p : Addr} {ns : List Str} {is : List Int} {ls : List (List Int)} (e : EnvAt H p ns is ls) {k : Nat} (hk : k < 4) : ∃ kvs, H p = some (.dK kvs) ∧ valV kvs (.inr (nm ns k)) = some (.int (is.getD k 0)) := by
  obtain ⟨h1, h2, h3, h4, vs, h5, h6, h7⟩ := e
  have g : vs[k]? = some vs[k] := List.getElem?_eq_getElem (by omega)
  refine ⟨_, h6, ?_⟩
  have e := kv_get h4 (nm_at (by omega)) g
  rw [e]
  rcases h7 k _ g with ⟨x, c1, c2⟩ | ⟨a, xs, c1, _⟩
  · rw [c2, List.getD_eq_getElem?_getD, c1]
    rfl
  · omega
theorem EnvAt.lst {H : Hp} {p : Addr} {ns : List Str} {is : List Int} {ls : List (List Int)} (e : EnvAt H p ns is ls) {j : Nat} (hj : j < 2) :
    ∃ kvs a, H p = some (.dK kvs) ∧ valV kvs (.inr (nm ns (4 + j))) = some (.ref a) ∧ H a = some (.lst ((ls.getD j []).map V.int)) := by
  obtain ⟨h1, h2, h3, h4, vs, h5, h6, h7⟩ := e
  have g : vs[4 + j]? = some vs[4 + j] := List.getElem?_eq_getElem (by omega)
  have e := kv_get h4 (nm_at (by omega)) g
  rcases h7 _ _ g with ⟨x, c1, c2⟩ | ⟨a, xs, c1, c2, c3, c4⟩
  · have := (List.getElem?_eq_some_iff.mp c1).1
    omega
  · refine ⟨_, a, h6, by rw [e, c3], ?_⟩
    have e2 : ls.getD j [] = xs := by
      rw [List.getD_eq_getElem?_getD]
      rw [show 4 + j - 4 = j by omega] at c2
      rw [c2]
      rfl
    rw [e2]
    exact c4
/-! ### the names -/
abbrev PADS : List Str := ["", "u", "zzzzzzzzzzz", "uz"]
def let9 (k : Nat) : Str := ⟨#[("abcdxy" : Str).cps.toList.getD k 0]⟩
def namesOf (k : Nat) : List Str := (PADS.map fun p => let9 k ++ p) ++ PADS.map fun p => p ++ let9 k
theorem names_apart : ∀ i, i < 6 → ∀ j, j < 6 → i ≠ j → ∀ x ∈ namesOf i, ∀ y ∈ namesOf j, x ≠ y := by decide +kernel
def NamesOk (ns : List Str) : Prop := ∀ i n, ns[i]? = some n → n ∈ namesOf i
theorem names_nodup {ns : List Str} (h : NamesOk ns) (hl : ns.length ≤ 6) : ns.Nodup := by
  rw [List.nodup_iff_pairwise_ne, List.pairwise_iff_getElem]
  intro i j hi hj lt
  exact names_apart i (by omega) j (by omega) (by omega) _ (h i _ (List.getElem?_eq_getElem hi)) _ (h j _ (List.getElem?_eq_getElem hj))
end WD
/-! WN: more rules and steps. -/
namespace WN
open PySem PySem.Spec PyProof.Rows L2 Wy
theorem sm {H H' : Hp} {a : Addr} {o : HO} (s : Same H H') (h : H a = some o) : H' a = some o := s _ _ h
theorem cm {l : Addr} {H H' : Hp} {a : Addr} {o : HO} (c : Chg l H H') (n : a ≠ l) (h : H a = some o) : H' a = some o := c.at h n
theorem ne_new {H : Hp} {a l : Addr} {o : HO} (n : H l = none) (h : H a = some o) : a ≠ l := ne_of_none h n
theorem iteTT {b : Bool} {A B : Prop} (e : b = true) (h : A) : if b = true then A else B := by
  rw [if_pos e]
  exact h
theorem iteFF {b : Bool} {A B : Prop} (e : b = false) (h : B) : if b = true then A else B := by
  rw [if_neg (by rw [e]; exact Bool.false_ne_true)]
  exact h
theorem iteB {b : Bool} {A B : Prop} (h1 : b = true → A) (h2 : b = false → B) : if b = true then A else B := by
  cases b with
  | true => exact iteTT rfl (h1 rfl)
  | false => exact iteFF rfl (h2 rfl)
/-- a decided question -/
theorem iteD {p : Prop} [Decidable p] {A B : Prop} (h1 : p → A) (h2 : ¬ p → B) : if decide p = true then A else B := ite2 (fun e => h1 (of_decide_eq_true e)) fun e => h2 fun x => e (decide_eq_true x)
theorem iteND {p : Prop} [Decidable p] {A B : Prop} (h1 : ¬ p → A) (h2 : p → B) : if (!decide p) = true then A else B := by
  by_cases h : p
  · exact iteFF (by rw [decide_eq_true h]; rfl) (h2 h)
  · exact iteTT (by rw [decide_eq_false h]; rfl) (h1 h)
theorem nRN (a : Addr) : decide (V.ref a = V.non) = false := decide_eq_false (fun e => nomatch e)
theorem nIN (a : Int) : decide (V.int a = V.non) = false := decide_eq_false (fun e => nomatch e)
theorem nSN (a : Str) : decide (V.str a = V.non) = false := decide_eq_false (fun e => nomatch e)
theorem nBN (a : Bool) : decide (V.bl a = V.non) = false := decide_eq_false (fun e => nomatch e)
theorem nNRN (a : Addr) : (!decide (V.ref a = V.non)) = true := by rw [nRN]; rfl
theorem nNIN (a : Int) : (!decide (V.int a = V.non)) = true := by rw [nIN]; rfl
theorem nNSN (a : Str) : (!decide (V.str a = V.non)) = true := by rw [nSN]; rfl
theorem nNBN (a : Bool) : (!decide (V.bl a = V.non)) = true := by rw [nBN]; rfl
theorem dI (a b : Int) : decide (V.int a = V.int b) = decide (a = b) := by
  by_cases h : a = b
  · subst h
    rw [decide_eq_true rfl, decide_eq_true rfl]
  · rw [decide_eq_false h, decide_eq_false (fun e => h (V.int.inj e))]
theorem iteI {i j : Int} {A B : Prop} (h1 : i = j → A) (h2 : ¬ i = j → B) : if decide (V.int i = V.int j) = true then A else B := by
  rw [dI]
  exact iteD h1 h2
theorem iteNI {i j : Int} {A B : Prop} (h1 : ¬ i = j → A) (h2 : i = j → B) : if (!decide (V.int i = V.int j)) = true then A else B := by
  rw [dI]
  exact iteND h1 h2
theorem free_of {H H' : Hp} {a : Addr} (n : H' a = none) (s : Same H H') : H a = none := s.free n
theorem dB (a b : Bool) : decide (V.bl a = V.bl b) = decide (a = b) := by cases a <;> cases b <;> rfl
section
variable {X : Cx}
def rAll2 (K : PySem.W.Frag) : List V → Hp → VK → Prop := rAll K
theorem call_all2 (hc : X.calm = true) : CallR X (.builtin "all") (rAll2 X.K) := cr_all hc
def rSum2 (K : PySem.W.Frag) : List V → Hp → VK → Prop := rSum K
theorem call_sum2 (hc : X.calm = true) : CallR X (.builtin "sum") (rSum2 X.K) := cr_sum hc
def rMx2 (_ : PySem.W.Frag) : List V → Hp → VK → Prop := fun xs H Q => ∃ i j, xs = [.int i, .int j] ∧ Q (.int (if j > i then j else i)) H
theorem call_mx2 (hc : X.calm = true) : CallR X (.builtin "max") (rMx2 X.K) := call_max2 hc
def rMn2 (_ : PySem.W.Frag) : List V → Hp → VK → Prop := fun xs H Q => ∃ i j, xs = [.int i, .int j] ∧ Q (.int (if j < i then j else i)) H
theorem call_mn2 (hc : X.calm = true) : CallR X (.builtin "min") (rMn2 X.K) := call_min2 hc
def rIsi2 (K : PySem.W.Frag) : List V → Hp → VK → Prop := fun xs H Q => rIsi K xs H Q ∨ rIsiT K xs H Q
theorem call_isi2 : CallR X (.builtin "isinstance") (rIsi2 X.K) := Wy.CallR.or call_isi call_isiT
/-- a call of a built-in that wants calm -/
theorem pe_callC {id : String} {x : Str} {e : Expr} {es : List Expr} {p pos : Pos} {t : TA} {r : PySem.W.Frag → List V → Hp → VK → Prop} (hc : ∀ X : Cx, X.calm = true → CallR X (.builtin id) (r X.K)) (hg : Gl X x) (hm : X.mg x = none) (hv : bootBuiltins x = some (.builtin id)) (ha : PA X (e :: es) t) (hcalm : X.calm = true := by rfl) (hn : x ≠ "__name__" := by decide) (hdb : (x == ("__debug__" : Str)) = false := by decide)
    (he : starEach (e :: es) X.env = (false, eval e X.env) :: starEach es X.env := by rfl) (hpl : (backTo pos (starEach es X.env)).any (·.1) = false := by rfl) : PE X (.Call (.Name x p) (e :: es) [] pos) (tCB (r X.K) t) :=
  pe_callB (hc X hcalm) hg hm hv ha hn hdb he hpl
theorem cc_all (X : Cx) (h : X.calm = true) : CallR X (.builtin "all") (rAll2 X.K) := call_all2 h
theorem cc_sum (X : Cx) (h : X.calm = true) : CallR X (.builtin "sum") (rSum2 X.K) := call_sum2 h
theorem cc_max (X : Cx) (h : X.calm = true) : CallR X (.builtin "max") (rMx2 X.K) := call_mx2 h
theorem cc_min (X : Cx) (h : X.calm = true) : CallR X (.builtin "min") (rMn2 X.K) := call_mn2 h
/-- repr of data -/
def rRepr (K : PySem.W.Frag) : List V → Hp → VK → Prop := fun xs H Q => ∃ (a : Addr) (d : PyData), xs = [.ref a] ∧ Dp K H (.ref a) d ∧ d.showable = true ∧ d.hasDict = false ∧ d.depth ≤ 60 ∧ d.shown.length ≤ sizeLine ∧ Q (.str d.shown) H
end
section
variable {K : PySem.W.Frag} {H : Hp} {Q : VK} {v x y : V} {b : Bool}
theorem o_fdW {f : Int → Int → V} {i j : Int} (h1 : 0 < j) (h2 : j ≤ 10 ^ 90) (h : Q (f i j) H) : rI CDivW f (.int i) (.int j) H Q :=
  ⟨i, j, rfl, rfl, wide_div (b := 400) h1 (by
    have : (10 : Int) ^ 90 < 2 ^ 400 := by decide +kernel
    omega) (by decide) (by decide), h⟩
/-- a rest, its bounds alone -/
theorem o_modG {i j : Int} (h1 : 0 < j) (h : ∀ r : Int, 0 ≤ r → r < j → Q (.int r) H) : rI (fun _ j => 0 < j) (fun i j => .int (i % j)) (.int i) (.int j) H Q := o_mod h1 (h _ (Int.emod_nonneg _ (by omega)) (Int.emod_lt_of_pos _ h1))
theorem b_all {a : Addr} {bs : List Bool} (hs : SqL K H a (bs.map V.bl)) (h : Q (.bl (bs.all id)) H) : rAll2 K [.ref a] H Q := ⟨a, bs, rfl, hs, h⟩
theorem b_sum {a : Addr} {ns : List Int} (hs : SqL K H a (ns.map V.int)) (h : Q (.int ns.sum) H) : rSum2 K [.ref a] H Q := ⟨a, ns, rfl, hs, h⟩
theorem b_mx {i j : Int} (h : Q (.int (max i j)) H) : rMx2 K [.int i, .int j] H Q := ⟨i, j, rfl, by
  have e : (if j > i then j else i) = max i j := by split <;> omega
  rw [e]
  exact h⟩
theorem b_mn {i j : Int} (h : Q (.int (min i j)) H) : rMn2 K [.int i, .int j] H Q := ⟨i, j, rfl, by
  have e : (if j < i then j else i) = min i j := by split <;> omega
  rw [e]
  exact h⟩
theorem b_is2 {n : String} {x : V} {tv : Value} (ty : TyX K H x tv) (h : PySem.W.kitOne K tv (.type n) = some b) (q : Q (.bl b) H) : rIsi2 K [x, .ty n] H Q := .inl (b_isi ty h q)
theorem ls_new {a : Addr} {xs : List V} (hs : SqL K H a xs) (h : ∀ p H2, H p = none → Same H H2 → H2 p = some (.lst xs) → Q (.ref p) H2) : rLst K [.ref a] H Q := ⟨a, xs, rfl, .inl hs, new_same h⟩
theorem ls_newT {a : Addr} {xs : List V} (hs : SqT K H a xs) (h : ∀ p H2, H p = none → Same H H2 → H2 p = some (.lst xs) → Q (.ref p) H2) : rLst K [.ref a] H Q := ⟨a, xs, rfl, .inr hs, new_same h⟩
theorem tp_new {a : Addr} {xs : List V} (hs : SqL K H a xs) (h : ∀ p H2, H p = none → Same H H2 → H2 p = some (.tup xs) → Q (.ref p) H2) : W6.rTup K [.ref a] H Q := W6.b_tup hs h
theorem tp_same {a : Addr} {xs : List V} (hs : SqT K H a xs) (h : Q (.ref a) H) : W6.rTup K [.ref a] H Q := ⟨a, xs, rfl, .inr ⟨hs, h⟩⟩
end
/-! ### draws -/
/-- each draw lies below its size -/
inductive Dr : List Int → List Int → Prop
  | nil : Dr [] []
  | cons {d s : Int} {ds ss : List Int} : 0 ≤ d → d < s → Dr ds ss → Dr (d :: ds) (s :: ss)
theorem Dr.len : ∀ {ds ss : List Int}, Dr ds ss → ds.length = ss.length
  | _, _, .nil => rfl
  | _, _, .cons _ _ h => by rw [List.length_cons, List.length_cons, h.len]
theorem Dr.snoc : ∀ {ds ss : List Int} {d s : Int}, Dr ds ss → 0 ≤ d → d < s → Dr (ds ++ [d]) (ss ++ [s])
  | _, _, _, _, .nil, h1, h2 => .cons h1 h2 .nil
  | _, _, _, _, .cons a b h, h1, h2 => .cons a b (h.snoc h1 h2)
theorem Dr.at : ∀ {ds ss : List Int} {i : Nat} {s : Int}, Dr ds ss → ss[i]? = some s → ∃ d, ds[i]? = some d ∧ 0 ≤ d ∧ d < s
  | _, _, 0, _, .cons a b _, e => by cases e; exact ⟨_, rfl, a, b⟩
  | _, _, i + 1, _, .cons _ _ h, e => h.at (i := i) e
theorem Dr.get {ds ss : List Int} {i : Nat} {d : Int} (h : Dr ds ss) (e : ds[i]? = some d) : ∃ s, ss[i]? = some s ∧ 0 ≤ d ∧ d < s := by
  have hl := h.len
  have hi := (List.getElem?_eq_some_iff.mp e).1
  obtain ⟨d', e', h1, h2⟩ := h.at (i := i) (List.getElem?_eq_getElem (by omega))
  rw [e] at e'
  cases e'
  exact ⟨_, List.getElem?_eq_getElem (by omega), h1, h2⟩
theorem Dr.inv {ds ss : List Int} {s : Int} (h : Dr ds (s :: ss)) : ∃ d r, ds = d :: r ∧ 0 ≤ d ∧ d < s ∧ Dr r ss := by
  cases h with
  | cons h1 h2 h3 => exact ⟨_, _, rfl, h1, h2, h3⟩
theorem Dr.nil_inv {ds : List Int} (h : Dr ds []) : ds = [] := by
  cases h
  rfl
/-- sizes that may be drawn below -/
def SzOk (ss : List Int) : Prop := ss.length ≤ 1000 ∧ ∀ s ∈ ss, 0 < s ∧ s ≤ 10 ^ 80
theorem szOk_of {ss : List Int} (h : (decide (ss.length ≤ 1000) && ss.all fun s => decide (0 < s) && decide (s ≤ 10 ^ 80)) = true) : SzOk ss := by
  simp only [Bool.and_eq_true, decide_eq_true_eq, List.all_eq_true] at h
  exact h
def PR : List Int := [2147483647, 998244353, 1000000007, 1000000009, 4294967291, 1073741789, 536870909, 2305843009213693951]
theorem pr_at {j : Nat} (h : j < 8) : ∃ p, PR[j]? = some p ∧ 0 < p ∧ p < 2 ^ 62 := by
  have : ∀ j, j < 8 → 0 < PR.getD j 0 ∧ PR.getD j 0 < 2 ^ 62 := by decide +kernel
  exact ⟨PR.getD j 0, by rw [List.getD_eq_getElem?_getD, List.getElem?_eq_getElem (by exact h)]; rfl, this j h⟩
theorem ix_pr {K : PySem.W.Frag} {H : Hp} {Q : VK} {a : Addr} {i : Int} (e : H a = some (.lst (PR.map V.int))) (h0 : 0 ≤ i) (h8 : i < 8) (h : ∀ p : Int, 0 < p → p < 2 ^ 62 → Q (.int p) H) : rIx K (.ref a) (.int i) H Q := by
  obtain ⟨p, g, p1, p2⟩ := pr_at (j := i.toNat) (by omega)
  exact o_ixL (lst_of e) (atI_of (j := i.toNat) (by omega) (v := .int p) (by rw [List.getElem?_map, g]; rfl)) (h p p1 p2)
/-- an int out of a list of ints -/
theorem ix_int {K : PySem.W.Frag} {H : Hp} {Q : VK} {a : Addr} {xs : List Int} {i : Int} (hs : SqL K H a (xs.map V.int)) (h0 : 0 ≤ i) (h1 : i < xs.length) (h : ∀ x : Int, xs[i.toNat]? = some x → Q (.int x) H) : rIx K (.ref a) (.int i) H Q := by
  have e := List.getElem?_eq_getElem (l := xs) (i := i.toNat) (by omega)
  exact o_ixL hs (atI_of (j := i.toNat) (by omega) (v := .int xs[i.toNat]) (by rw [List.getElem?_map, e]; rfl)) (h _ e)
def spCellN (K : PySem.W.Frag) : Sp := fun vs H Q _ => ∃ (a : Addr) (ns : List Int) (k : Int), vs = [.ref a, .int k] ∧ SqL K H a (ns.map V.int) ∧ ∀ r : Int, Q (.int r) H
def spDraws (K : PySem.W.Frag) : Sp := fun vs H Q _ => ∃ (a b : Addr) (ns ss : List Int) (k : Int), vs = [.ref a, .int k, .ref b] ∧ SqL K H a (ns.map V.int) ∧ SqL K H b (ss.map V.int) ∧ SzOk ss ∧
  ∀ p H' ds, Same H H' → H p = none → H' p = some (.lst ((ds : List Int).map V.int)) → Dr ds ss → Q (.ref p) H'
/-! ### lists and tuples alike -/
def iSeq (K : PySem.W.Frag) (te : TE) : TI := fun σ H R => iList K te σ H R ∨ iTup K te σ H R
theorem pi_seq {X : Cx} {tg e : Expr} {te : TE} (h : PE X e te) : PI X tg e (iSeq X.K te) := ⟨fun pins s σ H R I q => q.elim (fun q => (pi_list h).run pins s σ H R I q) (fun q => (pi_tup h).run pins s σ H R I q)⟩
theorem w_sl {K : PySem.W.Frag} {te : TE} {σ : L2.St} {H : Hp} {R : It → Hp → Prop} (h : te σ H fun x H1 => KL K x H1 R) : iSeq K te σ H R := .inl h
theorem w_st {K : PySem.W.Frag} {te : TE} {σ : L2.St} {H : Hp} {R : It → Hp → Prop} (h : te σ H fun x H1 => KT K x H1 R) : iSeq K te σ H R := .inr h
def Sq (K : PySem.W.Frag) (H : Hp) (a : Addr) (xs : List V) : Prop := SqL K H a xs ∨ SqT K H a xs
theorem Sq.same {K : PySem.W.Frag} {H H' : Hp} {a : Addr} {xs : List V} (h : Sq K H a xs) (s : Same H H') : Sq K H' a xs := h.imp (fun h => s.seq h) fun h => seqT s h
/-- an iterator over such -/
def SqIt (K : PySem.W.Frag) (a : Addr) (xs : List V) (J : It) (H : Hp) : Prop := (J = Itl K a ∧ SqL K H a xs) ∨ (J = Itt K a ∧ SqT K H a xs)
theorem SqIt.same {K : PySem.W.Frag} {H H' : Hp} {a : Addr} {xs : List V} {J : It} (h : SqIt K a xs J H) (s : Same H H') : SqIt K a xs J H' := h.imp (fun h => ⟨h.1, s.seq h.2⟩) fun h => ⟨h.1, seqT s h.2⟩
section
variable {K : PySem.W.Frag} {σ : L2.St} {H : Hp} {Q : VK} {D : Ends} {t : TS} {te : TE} {tt : TT} {g : TG} {a : Addr} {xs : List V} {vs : List Nat} {i : Nat} {J : It}
/-- for x in v, v a slot -/
theorem w_sq {R : It → Hp → Prop} (hs : Sq K H a xs) (e : σ[i]? = some (some (.ref a))) (h : ∀ J, SqIt K a xs J H → R J H) : iSeq K (tVar i) σ H R := by
  rcases hs with hs | hs
  · exact .inl (w_l (e_var e (k_l hs (h _ (.inl ⟨rfl, hs⟩)))))
  · exact .inr (w_t (e_var e (k_t hs (h _ (.inr ⟨rfl, hs⟩)))))
theorem f_sq {H0 : Hp} (hJ : SqIt K a xs J H0) (Pv : Nat → L2.St → Hp → Prop) (h0 : Pv 0 σ H) (hl : ∀ i σ H, Pv i σ H → Same H0 H)
    (hs : ∀ i x σ H, xs[i]? = some x → Pv i σ H → g x σ H fun σ2 H2 => t ⟨Pv (i + 1), D.rt, D.nx, Pv (i + 1)⟩ σ2 H2) (hd : ∀ σ H, Pv xs.length σ H → D.nx σ H) : LoopF J g t D σ H := by
  rcases hJ with ⟨rfl, hJ⟩ | ⟨rfl, hJ⟩
  · exact f_list Pv h0 (fun i σ H _ p => (hl i σ H p).seq hJ) hs hd
  · exact f_tup Pv h0 (fun i σ H _ p => seqT (hl i σ H p) hJ) hs hd
/-- a list comprehension: what is taken so far -/
theorem c_acc (hJ : SqIt K a xs J H) (R : Nat → List V → Hp → Prop) (mono : ∀ i acc H H', TK H H' → R i acc H → R i acc H') (small : ∀ i acc H, i ≤ xs.length → R i acc H → acc.length < sizeLine) (r0 : R 0 [] H)
    (step : ∀ i x H1 acc (N : VK) (M : Hp → Prop), xs[i]? = some x → Same H H1 → R i acc H1 → (∀ y H3, Same H1 H3 → R (i + 1) (acc ++ [y]) H3 → N y H3) → (∀ H3, Same H1 H3 → R (i + 1) acc H3 → M H3) →
      g x (wipe σ vs) H1 fun σ2 H2 => wipe σ2 vs = wipe σ vs ∧ tt σ2 H2 fun b H3 => if b = true then te σ2 H3 N else M H3)
    (post : ∀ D H2 ys, H D = none → Same H H2 → H2 D = some (.lst ys) → R xs.length ys H2 → Q (.ref D) H2) : LoopC J g tt te vs σ H Q := by
  have key : ∀ (D : Addr) (i : Nat) (x : V) (H1 : Hp), xs[i]? = some x → H D = none → (Same H H1 ∧ ∃ acc, H1 D = some (.lst acc) ∧ R i acc H1) → g x (wipe σ vs) H1 fun σ2 H2 => wipe σ2 vs = wipe σ vs ∧ tt σ2 H2 fun b H3 =>
      if b = true then te σ2 H3 fun y H4 => COut D y H4 (fun H5 => Same H H5 ∧ ∃ acc, H5 D = some (.lst acc) ∧ R (i + 1) acc H5) else (fun H5 => Same H H5 ∧ ∃ acc, H5 D = some (.lst acc) ∧ R (i + 1) acc H5) H3 := by
    intro D i x H1 hx nD ⟨s1, acc, e1, r1⟩
    have hi := (List.getElem?_eq_some_iff.mp hx).1
    refine step i x H1 acc _ _ hx s1 r1 (fun y H3 s3 r3 => ?_) (fun H3 s3 r3 => ⟨s1.trans s3, acc, s3 _ _ e1, r3⟩)
    refine c_out (s3 _ _ e1) (small i acc H1 (by omega) r1) fun H4 c4 e4 => ⟨c4.same (s1.trans s3) nD, _, e4, mono _ _ _ _ (c4.tk (s3 _ _ e1)) r3⟩
  have p0 : ∀ (D : Addr) (H1 : Hp), H D = none → Same H H1 → H1 D = some (.lst []) → (Same H H1 ∧ ∃ acc, H1 D = some (.lst acc) ∧ R 0 acc H1) := fun D H1 nD s1 e1 => ⟨s1, [], e1, mono _ _ _ _ s1.tk r0⟩
  have pe : ∀ (D : Addr) (H1 : Hp), H D = none → (Same H H1 ∧ ∃ acc, H1 D = some (.lst acc) ∧ R xs.length acc H1) → Q (.ref D) H1 := fun D H1 nD ⟨s1, acc, e1, r1⟩ => post D H1 acc nD s1 e1 r1
  rcases hJ with ⟨rfl, hJ⟩ | ⟨rfl, hJ⟩
  · exact c_list (fun D i H1 => Same H H1 ∧ ∃ acc, H1 D = some (.lst acc) ∧ R i acc H1) p0 (fun D i H1 _ _ p => p.1.seq hJ) (fun D i x H1 hx nD p => key D i x H1 hx nD p) pe
  · exact fun D nD => lc_tup (fun i H1 => Same H H1 ∧ ∃ acc, H1 D = some (.lst acc) ∧ R i acc H1) (p0 D _ nD (same_new nD) upd_same) (fun i H1 _ p => seqT p.1 hJ) (fun i x H1 hx p => key D i x H1 hx nD p) fun H1 p => pe D H1 nD p
theorem c_accR {lo : Int} {n : Nat} (R : Nat → List V → Hp → Prop) (mono : ∀ i acc H H', TK H H' → R i acc H → R i acc H') (small : ∀ i acc H, i ≤ n → R i acc H → acc.length < sizeLine) (r0 : R 0 [] H)
    (step : ∀ i H1 acc (N : VK) (M : Hp → Prop), i < n → Same H H1 → R i acc H1 → (∀ y H3, Same H1 H3 → R (i + 1) (acc ++ [y]) H3 → N y H3) → (∀ H3, Same H1 H3 → R (i + 1) acc H3 → M H3) →
      g (.int (lo + i)) (wipe σ vs) H1 fun σ2 H2 => wipe σ2 vs = wipe σ vs ∧ tt σ2 H2 fun b H3 => if b = true then te σ2 H3 N else M H3)
    (post : ∀ D H2 ys, H D = none → Same H H2 → H2 D = some (.lst ys) → R n ys H2 → Q (.ref D) H2) : LoopC (Itr lo n) g tt te vs σ H Q := by
  refine c_range (fun D i H1 => Same H H1 ∧ ∃ acc, H1 D = some (.lst acc) ∧ R i acc H1) (fun D H1 nD s1 e1 => ⟨s1, [], e1, mono _ _ _ _ s1.tk r0⟩) (fun D i H1 hi nD p => ?_) (fun D H1 nD ⟨s1, acc, e1, r1⟩ => post D H1 acc nD s1 e1 r1)
  obtain ⟨s1, acc, e1, r1⟩ := p
  refine step i H1 acc _ _ hi s1 r1 (fun y H3 s3 r3 => ?_) (fun H3 s3 r3 => ⟨s1.trans s3, acc, s3 _ _ e1, r3⟩)
  refine c_out (s3 _ _ e1) (small i acc H1 (by omega) r1) fun H4 c4 e4 => ⟨c4.same (s1.trans s3) nD, _, e4, mono _ _ _ _ (c4.tk (s3 _ _ e1)) r3⟩
end
/-- one value an item -/
def One (P : Nat → V → Hp → Prop) (i : Nat) (acc : List V) (H : Hp) : Prop := acc.length = i ∧ ∀ j y, acc[j]? = some y → P j y H
theorem One.zero {P : Nat → V → Hp → Prop} {H : Hp} : One P 0 [] H := ⟨rfl, fun j y e => by cases e⟩
theorem One.snoc {P : Nat → V → Hp → Prop} {i : Nat} {acc : List V} {H H3 : Hp} {y : V} (mono : ∀ j z, P j z H → P j z H3) (o : One P i acc H) (h : P i y H3) : One P (i + 1) (acc ++ [y]) H3 := by
  refine ⟨by rw [List.length_append, o.1]; rfl, fun j z e => ?_⟩
  by_cases hj : j < acc.length
  · rw [List.getElem?_append_left hj] at e
    exact mono _ _ (o.2 j z e)
  · have hj2 := (List.getElem?_eq_some_iff.mp e).1
    rw [List.length_append, List.length_singleton] at hj2
    have : j = acc.length := by omega
    subst this
    rw [List.getElem?_append_right (Nat.le_refl _), Nat.sub_self] at e
    cases e
    rw [o.1]
    exact h
/-- the list is known from its items -/
theorem One.eq {P : Nat → V → Hp → Prop} {α : Type} {F : α → V} {xs : List α} {acc : List V} {H : Hp} (o : One P xs.length acc H) (h : ∀ j y, j < xs.length → P j y H → xs[j]?.map F = some y) : acc = xs.map F := by
  refine List.ext_getElem? fun j => ?_
  by_cases hj : j < xs.length
  · have hj2 : j < acc.length := by rw [o.1]; exact hj
    rw [List.getElem?_map, h j _ hj (o.2 j acc[j] (List.getElem?_eq_getElem hj2)), List.getElem?_eq_getElem hj2]
  · rw [List.getElem?_eq_none (by rw [o.1]; omega), List.getElem?_eq_none (by rw [List.length_map]; omega)]
theorem One.eqR {P : Nat → V → Hp → Prop} {n : Nat} {F : Nat → V} {acc : List V} {H : Hp} (o : One P n acc H) (h : ∀ j y, j < n → P j y H → y = F j) : acc = (List.range n).map F := by
  refine One.eq (xs := List.range n) (F := F) (by rw [List.length_range]; exact o) fun j y hj p => ?_
  rw [List.length_range] at hj
  rw [List.getElem?_range hj, h j y hj p]
  rfl
theorem One.ints {P : Nat → V → Hp → Prop} {n : Nat} {acc : List V} {H : Hp} (o : One P n acc H) (h : ∀ j y, j < n → P j y H → ∃ i : Int, y = .int i) : ∃ xs : List Int, acc = xs.map V.int ∧ xs.length = n := by
  have key : ∀ acc : List V, (∀ y ∈ acc, ∃ i : Int, y = .int i) → ∃ xs : List Int, acc = xs.map V.int := by
    intro acc
    induction acc with
    | nil => exact fun _ => ⟨[], rfl⟩
    | cons y r ih =>
      intro h
      obtain ⟨i, rfl⟩ := h y List.mem_cons_self
      obtain ⟨xs, rfl⟩ := ih fun z hz => h z (List.mem_cons_of_mem _ hz)
      exact ⟨i :: xs, rfl⟩
  obtain ⟨xs, e⟩ := key acc fun y hy => by
    obtain ⟨j, hj, e⟩ := List.getElem_of_mem hy
    exact h j y (by rw [← o.1]; exact hj) (o.2 j y (by rw [List.getElem?_eq_getElem hj, e]))
  exact ⟨xs, e, by rw [← o.1, e, List.length_map]⟩
/-- `xs` with the pattern n times -/
theorem One.const {n : Nat} {acc : List V} {H : Hp} {v : V} (o : One (fun _ y _ => y = v) n acc H) : acc = List.replicate n v := by
  refine List.ext_getElem? fun j => ?_
  rw [List.getElem?_replicate]
  by_cases hj : j < n
  · rw [if_pos hj, List.getElem?_eq_getElem (by rw [o.1]; exact hj), o.2 j _ (List.getElem?_eq_getElem (by rw [o.1]; exact hj))]
  · rw [if_neg hj, List.getElem?_eq_none (by rw [o.1]; omega)]
end WN
/-! WQ: data that is equal. -/
namespace WQ
open PySem PySem.Spec PyProof.Rows L2 Wy WN
mutual
/-- no truth value in it -/
def nb : PyData → Bool
  | .none => true
  | .bool _ => false
  | .int _ => true
  | .str _ => true
  | .list xs => nbAll xs
  | .tuple xs => nbAll xs
  | .dict _ => false
def nbAll : List PyData → Bool
  | [] => true
  | x :: xs => nb x && nbAll xs
end
mutual
theorem eqv_iff : ∀ (d e : PyData), nb d = true → nb e = true → (PyData.eqv d e = true ↔ d = e)
  | .none, e, _, h => by cases e <;> simp [PyData.eqv, nb] at h ⊢
  | .bool _, _, h, _ => by simp [nb] at h
  | .int i, e, _, h => by cases e <;> simp [PyData.eqv, nb] at h ⊢
  | .str x, e, _, h => by cases e <;> simp [PyData.eqv, nb] at h ⊢
  | .list xs, e, h, h' => by
    cases e with
    | list ys =>
      have ih := eqvAll_iff xs ys (by simpa [nb] using h) (by simpa [nb] using h')
      simp [PyData.eqv, ih]
    | _ => simp [PyData.eqv, nb] at h' ⊢
  | .tuple xs, e, h, h' => by
    cases e with
    | tuple ys =>
      have ih := eqvAll_iff xs ys (by simpa [nb] using h) (by simpa [nb] using h')
      simp [PyData.eqv, ih]
    | _ => simp [PyData.eqv, nb] at h' ⊢
  | .dict _, _, h, _ => by simp [nb] at h
theorem eqvAll_iff : ∀ (xs ys : List PyData), nbAll xs = true → nbAll ys = true → (PyData.eqvAll xs ys = true ↔ xs = ys)
  | [], [], _, _ => by simp [PyData.eqvAll]
  | [], _ :: _, _, _ => by simp [PyData.eqvAll]
  | _ :: _, [], _, _ => by simp [PyData.eqvAll]
  | x :: xs, y :: ys, h, h' => by
    simp only [nbAll, Bool.and_eq_true] at h h'
    have i1 := eqv_iff x y h.1 h'.1
    have i2 := eqvAll_iff xs ys h.2 h'.2
    simp [PyData.eqvAll, i1, i2]
end
theorem shaped_of {d : PyData} (h : d.canLay0 = true) (h2 : d.depth ≤ 64) : SeqAt.shaped d = true := by
  unfold SeqAt.shaped
  rw [h, decide_eq_true h2]
  rfl
section
variable {K : PySem.W.Frag} {H : Hp} {Q : VK} {x y : V} {d e : PyData}
theorem eq_same (h1 : Dp K H x d) (h2 : Dp K H y d) (hs : SeqAt.shaped d = true) (h : Q (.bl true) H) : rEq2 K x y H Q := by
  refine o_eqD h1 h2 hs hs ?_
  rw [SeqAt.eqv_refl _ (SeqAt.canLay_of_shaped hs)]
  exact h
theorem ne_same (h1 : Dp K H x d) (h2 : Dp K H y d) (hs : SeqAt.shaped d = true) (h : Q (.bl false) H) : rNe2 K x y H Q := by
  refine o_neD h1 h2 hs hs ?_
  rw [SeqAt.eqv_refl _ (SeqAt.canLay_of_shaped hs)]
  exact h
theorem eq_nb (h1 : Dp K H x d) (h2 : Dp K H y e) (hs : SeqAt.shaped d = true) (hs2 : SeqAt.shaped e = true) (n1 : nb d = true) (n2 : nb e = true) (hy : d = e → Q (.bl true) H) (hn : d ≠ e → Q (.bl false) H) : rEq2 K x y H Q := by
  refine o_eqD h1 h2 hs hs2 ?_
  have i := eqv_iff d e n1 n2
  cases q : PyData.eqv d e with
  | true => exact hy (i.mp q)
  | false => exact hn fun z => by rw [i.mpr z] at q; cases q
theorem ne_nb (h1 : Dp K H x d) (h2 : Dp K H y e) (hs : SeqAt.shaped d = true) (hs2 : SeqAt.shaped e = true) (n1 : nb d = true) (n2 : nb e = true) (hy : d = e → Q (.bl false) H) (hn : d ≠ e → Q (.bl true) H) : rNe2 K x y H Q := by
  refine o_neD h1 h2 hs hs2 ?_
  have i := eqv_iff d e n1 n2
  cases q : PyData.eqv d e with
  | true => exact hy (i.mp q)
  | false => exact hn fun z => by rw [i.mpr z] at q; cases q
end
theorem lay_all {α : Type} (F : α → PyData) : ∀ xs : List α, (∀ x ∈ xs, (F x).canLay0 = true) → PyData.canLayAll0 (xs.map F) = true
  | [], _ => by simp [PyData.canLayAll0]
  | x :: xs, h => by simp [PyData.canLayAll0, h x List.mem_cons_self, lay_all F xs fun y hy => h y (List.mem_cons_of_mem _ hy)]
theorem dep_all {α : Type} (F : α → PyData) (n : Nat) : ∀ xs : List α, (∀ x ∈ xs, (F x).depth ≤ n) → PyData.depthAll (xs.map F) ≤ n
  | [], _ => by simp [PyData.depthAll]
  | x :: xs, h => by
    have h1 := h x List.mem_cons_self
    have h2 := dep_all F n xs fun y hy => h y (List.mem_cons_of_mem _ hy)
    simp only [List.map_cons, PyData.depthAll]
    omega
theorem nb_all {α : Type} (F : α → PyData) : ∀ xs : List α, (∀ x ∈ xs, nb (F x) = true) → nbAll (xs.map F) = true
  | [], _ => by simp [nbAll]
  | x :: xs, h => by simp [nbAll, h x List.mem_cons_self, nb_all F xs fun y hy => h y (List.mem_cons_of_mem _ hy)]
theorem shL {α : Type} (F : α → PyData) (xs : List α) (n : Nat) (hn : n < 64) (h : ∀ x ∈ xs, (F x).canLay0 = true ∧ (F x).depth ≤ n) : SeqAt.shaped (.list (xs.map F)) = true :=
  shaped_of (by simp [PyData.canLay0, lay_all F xs fun x hx => (h x hx).1]) (by have := dep_all F n xs fun x hx => (h x hx).2; simp only [PyData.depth]; omega)
theorem shT {α : Type} (F : α → PyData) (xs : List α) (n : Nat) (hn : n < 64) (h : ∀ x ∈ xs, (F x).canLay0 = true ∧ (F x).depth ≤ n) : SeqAt.shaped (.tuple (xs.map F)) = true :=
  shaped_of (by simp [PyData.canLay0, lay_all F xs fun x hx => (h x hx).1]) (by have := dep_all F n xs fun x hx => (h x hx).2; simp only [PyData.depth]; omega)
theorem lay_int (i : Int) : (PyData.int i).canLay0 = true ∧ (PyData.int i).depth ≤ 0 := ⟨by simp [PyData.canLay0], by simp [PyData.depth]⟩
theorem lay_bool (b : Bool) : (PyData.bool b).canLay0 = true ∧ (PyData.bool b).depth ≤ 0 := ⟨by simp [PyData.canLay0], by simp [PyData.depth]⟩
theorem lay_tup {ds : List PyData} {n : Nat} (h : ∀ x ∈ ds, x.canLay0 = true ∧ x.depth ≤ n) : (PyData.tuple ds).canLay0 = true ∧ (PyData.tuple ds).depth ≤ n + 1 := by
  have h1 := lay_all id ds fun x hx => (h x hx).1
  have h2 := dep_all id n ds fun x hx => (h x hx).2
  rw [List.map_id] at h1 h2
  exact ⟨by simp [PyData.canLay0, h1], by simp only [PyData.depth]; omega⟩
/-! values to data -/
theorem dp_ints {K : PySem.W.Frag} {H : Hp} : ∀ xs : List Int, DpAll K H (xs.map V.int) (xs.map PyData.int)
  | [] => .nil
  | x :: xs => .cons (.int x) (dp_ints xs)
theorem dp_bls {K : PySem.W.Frag} {H : Hp} : ∀ xs : List Bool, DpAll K H (xs.map V.bl) (xs.map PyData.bool)
  | [] => .nil
  | x :: xs => .cons (.bl x) (dp_bls xs)
theorem tp_ints {H : Hp} : ∀ xs : List Int, TpAll H (xs.map V.int) (xs.map PyData.int)
  | [] => .nil
  | x :: xs => .cons (.int x) (tp_ints xs)
theorem ints_tp {H : Hp} : ∀ {xs : List Int} {vs : List V}, TpAll H vs (xs.map PyData.int) → vs = xs.map V.int
  | [], _, h => by cases h; rfl
  | x :: xs, _, h => by
    cases h with
    | cons h1 h2 =>
      cases h1
      rw [ints_tp h2]
      rfl
theorem tpGet {α : Type} {F : α → PyData} {H : Hp} {us : List V} {xs : List α} {i : Nat} {u : V} (t : TpAll H us (xs.map F)) (e : us[i]? = some u) : ∃ x, xs[i]? = some x ∧ Tp H u (F x) := by
  have hl := t.length
  rw [List.length_map] at hl
  have hi := (List.getElem?_eq_some_iff.mp e).1
  have hx : xs[i]? = some xs[i] := List.getElem?_eq_getElem (by omega)
  obtain ⟨v, e2, tv⟩ := t.get (i := i) (d := F xs[i]) (by rw [List.getElem?_map, hx]; rfl)
  rw [e] at e2
  cases e2
  exact ⟨_, hx, tv⟩
theorem tpAt {α : Type} {F : α → PyData} {H : Hp} {us : List V} {xs : List α} {i : Nat} {x : α} (t : TpAll H us (xs.map F)) (e : xs[i]? = some x) : ∃ u, us[i]? = some u ∧ Tp H u (F x) :=
  t.get (by rw [List.getElem?_map, e]; rfl)
theorem tp3 {H : Hp} {v : V} {d1 d2 d3 : PyData} (h : Tp H v (.tuple [d1, d2, d3])) : ∃ a v1 v2 v3, v = .ref a ∧ H a = some (.tup [v1, v2, v3]) ∧ Tp H v1 d1 ∧ Tp H v2 d2 ∧ Tp H v3 d3 := by
  cases h with
  | tup e r =>
    cases r with | cons h1 r => cases r with | cons h2 r => cases r with | cons h3 r =>
      cases r
      exact ⟨_, _, _, _, rfl, e, h1, h2, h3⟩
theorem tp2 {H : Hp} {v : V} {d1 d2 : PyData} (h : Tp H v (.tuple [d1, d2])) : ∃ a v1 v2, v = .ref a ∧ H a = some (.tup [v1, v2]) ∧ Tp H v1 d1 ∧ Tp H v2 d2 := by
  cases h with
  | tup e r =>
    cases r with | cons h1 r => cases r with | cons h2 r =>
      cases r
      exact ⟨_, _, _, rfl, e, h1, h2⟩
theorem tpL {H : Hp} {v : V} {ds : List PyData} (h : Tp H v (.tuple ds)) : ∃ a vs, v = .ref a ∧ H a = some (.tup vs) ∧ TpAll H vs ds := by
  cases h with
  | tup e r => exact ⟨_, _, rfl, e, r⟩
theorem tpSnoc {H : Hp} {us : List V} {ds : List PyData} {v : V} {d : PyData} (t : TpAll H us ds) (h : Tp H v d) : TpAll H (us ++ [v]) (ds ++ [d]) := by
  induction us generalizing ds with
  | nil => cases t; exact .cons h .nil
  | cons u r ih => cases t with | cons a b => exact .cons a (ih b)
theorem tpApp {H : Hp} {us vs : List V} {ds es : List PyData} (t : TpAll H us ds) (h : TpAll H vs es) : TpAll H (us ++ vs) (ds ++ es) := by
  induction us generalizing ds with
  | nil => cases t; exact h
  | cons u r ih => cases t with | cons a b => exact .cons a (ih b)
theorem tpOf {H : Hp} : ∀ {us : List V} {ds : List PyData}, us.length = ds.length → (∀ (j : Nat) (y : V) (d : PyData), us[j]? = some y → ds[j]? = some d → Tp H y d) → TpAll H us ds
  | [], [], _, _ => .nil
  | [], _ :: _, h, _ => by simp at h
  | _ :: _, [], h, _ => by simp at h
  | u :: us, d :: ds, h, g => .cons (g 0 u d rfl rfl) (tpOf (by simpa using h) fun j y d a b => g (j + 1) y d (by simpa using a) (by simpa using b))
/-- one by one over a range -/
theorem tpOne {P : Nat → V → Hp → Prop} {F : Nat → PyData} {n : Nat} {us : List V} {H : Hp} (o : One P n us H) (h : ∀ j y, j < n → P j y H → Tp H y (F j)) : TpAll H us ((List.range n).map F) :=
  tpOf (by rw [o.1, List.length_map, List.length_range]) fun j y d a b => by
    have hj : j < n := by have := (List.getElem?_eq_some_iff.mp a).1; rw [o.1] at this; exact this
    rw [List.getElem?_map, List.getElem?_range hj] at b
    cases b
    exact h j y hj (o.2 j y a)
/-- tuples of ints -/
def iT (xs : List Int) : PyData := .tuple (xs.map .int)
theorem tpI {H : Hp} {v : V} {xs : List Int} (h : Tp H v (iT xs)) : ∃ a, v = .ref a ∧ H a = some (.tup (xs.map V.int)) := by
  obtain ⟨a, vs, rfl, e, t⟩ := tpL h
  rw [ints_tp t] at e
  exact ⟨a, rfl, e⟩
theorem iT_tp {H : Hp} {a : Addr} {xs : List Int} (e : H a = some (.tup (xs.map V.int))) : Tp H (.ref a) (iT xs) := .tup e (tp_ints xs)
theorem iT_lay (xs : List Int) : (iT xs).canLay0 = true ∧ (iT xs).depth ≤ 1 := lay_tup fun x hx => by
  obtain ⟨i, _, rfl⟩ := List.mem_map.mp hx
  exact lay_int i
theorem nb_int : ∀ xs : List Int, nbAll (xs.map PyData.int) = true
  | [] => rfl
  | x :: xs => by simp [nbAll, nb, nb_int xs]
theorem iT_nb (xs : List Int) : nb (iT xs) = true := by
  show nbAll _ = true
  exact nb_int xs
end WQ
/-! WS: differences and values. -/
namespace WS
open PySem PySem.Spec PyProof.Rows L2 Wy WN WQ
abbrev Df := Int × Int × Int
def dfD (d : Df) : PyData := .tuple [.int d.1, .int d.2.1, .int d.2.2]
theorem dfD_lay (d : Df) : (dfD d).canLay0 = true ∧ (dfD d).depth ≤ 1 := lay_tup (n := 0) fun x hx => by
  simp only [List.mem_cons, List.not_mem_nil, or_false] at hx
  rcases hx with rfl | rfl | rfl <;> exact lay_int _
theorem dfD_nb (d : Df) : nb (dfD d) = true := rfl
/-- the value of a node -/
def lv (vs : List Int) (n : Int) : Int := (0 :: vs).getD n.toNat 0
def kept (vs : List Int) (d : Df) : Bool := decide (lv vs d.1 - lv vs d.2.1 ≤ d.2.2)
def InR (n : Nat) (d : Df) : Prop := 0 ≤ d.1 ∧ d.1 ≤ n ∧ 0 ≤ d.2.1 ∧ d.2.1 ≤ n
theorem lv_at {vs : List Int} {n : Int} (h0 : 0 ≤ n) (h1 : n ≤ vs.length) : ((0 :: vs).map V.int)[n.toNat]? = some (.int (lv vs n)) := by
  have : n.toNat < (0 :: vs).length := by rw [List.length_cons]; omega
  rw [List.getElem?_map, List.getElem?_eq_getElem this]
  unfold lv
  rw [List.getD_eq_getElem?_getD, List.getElem?_eq_getElem this]
  rfl
section
variable {K : PySem.W.Frag} {H : Hp} {Q : VK} {a : Addr} {xs : List V} {x y z : V}
theorem ix_lv {vs : List Int} {n : Int} (hs : SqL K H a ((0 :: vs).map V.int)) (h0 : 0 ≤ n) (h1 : n ≤ vs.length) (h : Q (.int (lv vs n)) H) : rIx K (.ref a) (.int n) H Q := o_ixL hs (atI_of (j := n.toNat) (by omega) (lv_at h0 h1)) h
theorem b_allT (hs : SqL K H a xs) (hx : ∀ (j : Nat) (y : V), xs[j]? = some y → y = .bl true) (h : Q (.bl true) H) : rAll2 K [.ref a] H Q := by
  have e : xs = (List.replicate xs.length true).map V.bl := by
    refine List.ext_getElem? fun j => ?_
    rw [List.getElem?_map, List.getElem?_replicate]
    by_cases hj : j < xs.length
    · rw [if_pos hj, List.getElem?_eq_getElem hj, hx j _ (List.getElem?_eq_getElem hj)]
      rfl
    · rw [if_neg hj, List.getElem?_eq_none (by omega)]
      rfl
  rw [e] at hs
  refine b_all hs ?_
  have : (List.replicate xs.length true).all id = true := by simp
  rw [this]
  exact h
/-- all of truths that are known one by one -/
theorem b_allM {α : Type} {ds : List α} {f : α → Bool} (hs : SqL K H a (ds.map fun d => V.bl (f d))) (h : Q (.bl (ds.all f)) H) : rAll2 K [.ref a] H Q := by
  have e : ds.map (fun d => V.bl (f d)) = (ds.map f).map V.bl := by rw [List.map_map]; rfl
  rw [e] at hs
  refine b_all hs ?_
  have : (ds.map f).all id = ds.all f := by rw [List.all_map]; rfl
  rw [this]
  exact h
theorem b_len0 (hs : SqL K H a []) (h : Q (.int 0) H) : rLn K [.ref a] H Q := b_lenL hs h
theorem b_lenT0 (hs : SqT K H a []) (h : Q (.int 0) H) : rLn K [.ref a] H Q := b_lenT hs h
theorem b_lenT1 (hs : SqT K H a [x]) (h : Q (.int 1) H) : rLn K [.ref a] H Q := b_lenT hs h
theorem b_lenT2 (hs : SqT K H a [x, y]) (h : Q (.int 2) H) : rLn K [.ref a] H Q := b_lenT hs h
theorem b_lenT3 (hs : SqT K H a [x, y, z]) (h : Q (.int 3) H) : rLn K [.ref a] H Q := b_lenT hs h
end
def spIsInt : Sp := fun vs H Q _ => ∃ i : Int, vs = [.int i] ∧ Q (.bl true) H
/-- all differences kept by values -/
def spKept (K : PySem.W.Frag) : Sp := fun vs H Q _ => ∃ (a b : Addr) (us : List V) (ds : List Df) (vals : List Int), vs = [.ref a, .ref b] ∧ Sq K H a us ∧ TpAll H us (ds.map dfD) ∧ H b = some (.lst (vals.map V.int)) ∧ (∀ d ∈ ds, InR vals.length d) ∧
  ds.length ≤ 1000 ∧ vals.length ≤ 900 ∧ ∀ H', Same H H' → Q (.bl (ds.all (kept vals))) H'
end WS
local macro_rules | `(tactic| walk_at "tr") => `(tactic| first | assumption | exact lst_of (by assumption) | exact tup_of (by assumption) | (refine L2.Same.seq (by assumption) ?_; walk_at "tr") | (refine seqT (by assumption) ?_; walk_at "tr"))
local macro_rules | `(tactic| walk_at "s") => `(tactic| with_reducible first
  | refine s_seq ?_ | refine s_asg ?_ | refine g_name ?_ | refine s_ret ?_ | refine s_retN ?_ | refine s_drop ?_ | refine s_if ?_ | refine s_next ?_ | refine s_brk ?_ | refine s_ct ?_ | refine s_for ?_
  | (apply e_var; with_unfolding_all rfl) | refine e_c ?_ | refine e_op ?_ | refine e_un ?_ | refine a_cons ?_ | refine a_nil ?_ | refine c_b ?_ | refine c_call ?_ | refine t_test ?_ | refine k_bl ?_ | refine t_b ?_ | refine t_tr ?_ | refine k_trB ?_ | refine k_trN ?_ | refine k_trI ?_
  | refine t_and ?_ | refine t_or ?_ | refine t_not ?_ | refine e_andV ?_ | refine e_orV ?_ | refine e_notV ?_ | refine e_if ?_ | refine e_chain ?_ | refine e_tup ?_ | refine e_lst ?_ | refine e_sl ?_ | refine p_no ?_ | refine p_so ?_ | refine k_int ?_
  | refine m_bm ?_ | refine g_sub ?_ | refine m_m1 ?_ | refine m_st ?_ | refine e_lc ?_ | refine t_yes ?_ | refine w_r1 ?_ | refine w_r2 ?_ | refine w_l ?_ | refine w_t ?_ | refine w_s ?_ | refine k_s ?_
  | (apply s_aug; with_unfolding_all rfl) | refine i_add ?_ | refine o_addI ?_ | refine o_I0 ?_ | refine b_int ?_ | refine b_intB ?_ | refine b_abs ?_ | refine u_neg ?_ | refine o_isN ?_ | refine o_ntN ?_ | refine o_inS ?_ | refine o_niS ?_
  | refine g_cons ?_ | refine g_nil ?_ | refine e_joined ?_ | refine j_nil ?_ | refine j_cons ?_ | refine e_fmt ?_
  | refine WD.e_dget ?_ | refine WD.s_dput ?_
  | (refine o_mod ?_ ?_; omega) | (refine o_fdiv ?_ ?_ ?_; omega; omega) | (refine o_pow ?_ ?_ ?_ ?_; omega; omega; omega) | (refine o_mulI2 ?_ ?_ ?_; omega; omega) | (refine o_mulI1 ?_ ?_ ?_; omega; omega)
  | (refine WN.o_fdW ?_ ?_ ?_; omega; omega))
local macro_rules | `(tactic| walk_at "ss") => `(tactic| repeat walk_at "s")
local macro_rules | `(tactic| walk_at "ne") => `(tactic| first | assumption | exact Ne.symm (by assumption) | exact WN.ne_new (by assumption) (by walk_at "hp0") | exact Ne.symm (WN.ne_new (by assumption) (by walk_at "hp0")))
local macro_rules | `(tactic| walk_at "hp0") => `(tactic| first | assumption | (refine WN.sm (by assumption) ?_; walk_at "hp0"))
local macro_rules | `(tactic| walk_at "hp") => `(tactic| first | assumption | (refine WN.sm (by assumption) ?_; walk_at "hp") | (refine WN.cm (by assumption) (by walk_at "ne") ?_; walk_at "hp"))
local macro_rules | `(tactic| walk_at "sq") => `(tactic| first | assumption | exact lst_of (by walk_at "hp") | exact tup_of (by walk_at "hp") | (refine L2.Same.seq (by assumption) ?_; walk_at "sq") | (refine seqT (by assumption) ?_; walk_at "sq"))
local macro_rules | `(tactic| walk_at "sa") => `(tactic| first | assumption | exact L2.Same.refl _ | (refine L2.Same.trans ?_ (by assumption); walk_at "sa"))
local macro_rules | `(tactic| walk_at "ty") => `(tactic| first | exact .base (.int _) | exact .base (.bl _) | exact .base .non | exact .base (.str _) | exact .base (.lst (by walk_at "hp")) | exact .base (.tup (by walk_at "hp")))
local macro_rules | `(tactic| walk_at "x") => `(tactic| with_reducible first
  | walk_at "s"
  | (refine n_obj ?_ (fun _ _ _ _ _ => ?_); exact lz (Nat.le_of_ble_eq_true rfl))
  | (apply o_ixT; walk_at "sq"; with_unfolding_all rfl)
  | (apply o_ixL; walk_at "sq"; with_unfolding_all rfl)
  | (apply g_tup; walk_at "sq"; with_unfolding_all rfl)
  | (apply l_L; walk_at "sq"; intro _ _ _ _ _)
  | (refine k_r1 ?_ ?_ ?_; omega; omega)
  | refine WN.b_mx ?_ | refine WN.b_mn ?_
  | (apply k_l; walk_at "sq") | (apply k_t; walk_at "sq")
  | (apply WS.b_lenT2; walk_at "sq") | (apply WS.b_lenT3; walk_at "sq")
  | (apply WN.b_is2 (b := true); walk_at "ty"; exact L2.kit_ty (by decide +kernel)) | (apply WN.b_is2 (b := false); walk_at "ty"; exact L2.kit_ty (by decide +kernel))
  | refine L2.iteT ?_ | refine L2.iteF ?_
  | (refine WN.iteTT ?_ ?_; first | decide +kernel | exact WN.nNRN _ | exact WN.nNIN _ | exact WN.nNSN _ | exact WN.nNBN _)
  | (refine WN.iteFF ?_ ?_; first | decide +kernel | exact WN.nRN _ | exact WN.nIN _ | exact WN.nSN _ | exact WN.nBN _)
  | (refine o_eqS ?_ ?_; with_unfolding_all rfl) | (refine o_neS ?_ ?_; with_unfolding_all rfl))
local macro_rules | `(tactic| walk_at "xx") => `(tactic| repeat walk_at "x")
local macro_rules | `(tactic| walk_at "fr") => `(tactic| first | assumption | exact WN.free_of (by assumption) (by walk_at "sa"))
local macro_rules | `(tactic| walk_at "tp") => `(tactic| first | exact .nil | exact .int _ | exact .bl _ | exact .str _ | exact .non | (refine .cons ?_ ?_ <;> walk_at "tp") | (refine .tup (by walk_at "hp") ?_; walk_at "tp"))
/-! WC: sequences of either kind, and chains. -/
namespace WC
open PySem PySem.Spec PyProof.Rows L2 Wy WN WQ WS
abbrev tStar := StX.tStar
theorem pa_star {X : Cx} {e : Expr} {es : List Expr} {p : Pos} {te : TE} {t : TA} (he : PE X e te) (hr : PA X es t) (hs : starEach (.Starred e p :: es) X.env = (true, eval e X.env) :: starEach es X.env := by rfl) : PA X (.Starred e p :: es) (tStar X.K te t) := StX.pa_star he hr hs
theorem ixN_of {n : Nat} {k : Int} (h0 : 0 ≤ k) (h1 : k < n) : ixN n k = some k.toNat := by
  obtain ⟨j, rfl⟩ : ∃ j : Nat, k = j := ⟨k.toNat, by omega⟩
  rw [ixN_nat (by omega), Int.toNat_natCast]
theorem erase_perm {α : Type} : ∀ {xs : List α} {i : Nat} {x : α}, xs[i]? = some x → (x :: xs.eraseIdx i).Perm xs
  | [], _, _, h => by cases h
  | y :: xs, 0, x, h => by
    cases h
    exact .refl _
  | y :: xs, i + 1, x, h => (List.Perm.swap y x _).trans ((erase_perm (xs := xs) (i := i) h).cons y)
theorem take_sum1 {ws : List Int} {i : Nat} {w : Int} (h : ws[i]? = some w) : (ws.take (i + 1)).sum = (ws.take i).sum + w := by
  rw [List.take_succ, h, List.sum_append]
  simp
theorem nd_inj {α : Type} {xs : List α} {i j : Nat} {x : α} (nd : xs.Nodup) (h1 : xs[i]? = some x) (h2 : xs[j]? = some x) : i = j := by
  have l1 := (List.getElem?_eq_some_iff.mp h1).1
  exact (List.getElem?_inj l1 nd).mp (h1.trans h2.symm)
theorem tpIns {H : Hp} {v : V} {d : PyData} : ∀ {i : Nat} {us : List V} {ds : List PyData}, TpAll H us ds → Tp H v d → TpAll H (us.take i ++ [v] ++ us.drop i) (ds.take i ++ [d] ++ ds.drop i)
  | 0, us, ds, t, h => .cons h t
  | i + 1, _, _, .nil, h => .cons h .nil
  | i + 1, _, _, .cons a b, h => .cons a (tpIns (i := i) b h)
theorem tpTake {H : Hp} : ∀ {i : Nat} {us : List V} {ds : List PyData}, TpAll H us ds → TpAll H (us.take i) (ds.take i)
  | 0, us, ds, t => .nil
  | i + 1, _, _, .nil => .nil
  | i + 1, _, _, .cons a b => .cons a (tpTake (i := i) b)
theorem tpRev {H : Hp} : ∀ {us : List V} {ds : List PyData}, TpAll H us ds → TpAll H us.reverse ds.reverse
  | _, _, .nil => .nil
  | _, _, .cons a b => by
    rw [List.reverse_cons, List.reverse_cons]
    exact tpSnoc (tpRev b) a
section
variable {X : Cx}
theorem pe_bmK {K : PySem.W.Frag} {o e : Expr} {es : List Expr} {to : TE} {t : TA} {name : Str} {apos cpos : Pos} {T id : String} {r : V → List V → Hp → VK → Prop}
    (pa : PlainAttrs T) (slot : Slot T name id) (hty : typeOf (.builtin id) = pure (.type "method_descriptor")) (hm : MtR X id r) (ho : PE X o to) (ha : PA X (e :: es) t) (hK : X.K = K := by rfl)
    (hbase : attributeBase o name X.env (eval o X.env) = eval o X.env := by rfl)
    (hfew : ((backTo cpos (starEach (e :: es) X.env)).all (fun x => !x.1) && (backToKw cpos (keywordEach [] X.env)).all (fun x => x.1.isSome)
      && decide ((e :: es).length + ([] : List Keyword).length + (if ([] : List Keyword).isEmpty then 0 else 1) < 30)) = true := by rfl)
    (hline : (apos.endLine == cpos.line) = true := by rfl) (hs : starEach (e :: es) X.env = (false, eval e X.env) :: starEach es X.env := by rfl) (hplain : (backTo cpos (starEach es X.env)).any (·.1) = false := by rfl) :
    PE X (.Call (.Attribute o name apos) (e :: es) [] cpos) (tBM K T r to t) := hK ▸ pe_bm pa slot hty hm ho ha hbase hfew hline hs hplain
def rSl3 (K : PySem.W.Frag) : V → Option Int → Option Int → Hp → VK → Prop := fun x lo hi H Q => rSl2 K x lo hi H Q ∨ rSlA K x lo hi H Q
theorem sl_3 : SlR X (rSl3 X.K) := sl_2.or sl_tupA
def rIns : V → List V → Hp → VK → Prop := fun x vs H Q => ∃ (l : Addr) (xs : List V) (i : Int) (y : V), x = .ref l ∧ vs = [.int i, y] ∧ H l = some (.lst xs) ∧ xs.length < sizeLine ∧ 0 ≤ i ∧ i < 2 ^ 63 ∧ Q .non (upd H l (.lst (xs.take i.toNat ++ [y] ++ xs.drop i.toNat)))
theorem mt_insert2 : MtR X "list.insert" rIns := mt_insert
end
section
variable {K : PySem.W.Frag} {σ : L2.St} {H : Hp} {Q : VK} {QT : Bool → Hp → Prop} {te : TE} {tr : TA} {v x y : V} {QA : List V → Hp → Prop} {a : Addr} {xs : List V}
def KSt (K : PySem.W.Frag) (x : V) (t : TA) (σ : L2.St) (H : Hp) (QA : List V → Hp → Prop) : Prop := ∃ p xs, x = V.ref p ∧ (SqT K H p xs ∨ SqL K H p xs) ∧ t σ H fun ys H2 => QA (xs ++ ys) H2
theorem a_star (h : te σ H fun x H1 => KSt K x tr σ H1 QA) : tStar K te tr σ H QA := h
theorem k_st (hs : Sq K H a xs) (h : tr σ H fun ys H2 => QA (xs ++ ys) H2) : KSt K (.ref a) tr σ H QA := ⟨a, xs, rfl, hs.symm, h⟩
theorem k_trQ (hs : Sq K H a xs) (h : QT (!xs.isEmpty) H) : KTr K (.ref a) H QT := hs.elim (fun s => k_trL s h) fun s => k_trT s h
theorem b_lenQ (hs : Sq K H a xs) (h : Q (.int xs.length) H) : rLn K [.ref a] H Q := hs.elim (fun s => b_lenL s h) fun s => b_lenT s h
theorem o_ixQ {j : Int} (hs : Sq K H a xs) (e : atI xs j = some v) (h : Q v H) : rIx K (.ref a) (.int j) H Q := hs.elim (fun s => o_ixL s e h) fun s => o_ixT s e h
theorem ix_intQ {ns : List Int} {i : Int} (hs : Sq K H a (ns.map V.int)) (h0 : 0 ≤ i) (h1 : i < ns.length) (h : ∀ x : Int, ns[i.toNat]? = some x → Q (.int x) H) : rIx K (.ref a) (.int i) H Q := by
  have e := List.getElem?_eq_getElem (l := ns) (i := i.toNat) (by omega)
  exact o_ixQ hs (atI_of (j := i.toNat) (by omega) (v := .int ns[i.toNat]) (by rw [List.getElem?_map, e]; rfl)) (h _ e)
theorem m_ins {i : Int} (e : H a = some (.lst xs)) (hz : xs.length < sizeLine) (h0 : 0 ≤ i) (h1 : i ≤ xs.length) (h : ∀ H2, Chg a H H2 → H2 a = some (.lst (xs.take i.toNat ++ [y] ++ xs.drop i.toNat)) → Q .non H2) : rIns (.ref a) [.int i, y] H Q :=
  ⟨a, xs, i, y, rfl, rfl, e, hz, h0, by have : sizeLine = 16777216 := sizeLine_eq; omega, h _ chg_upd upd_same⟩
theorem m_popI {i : Int} (e : H a = some (.lst xs)) (hz : xs.length < sizeLine) (h0 : 0 ≤ i) (h1 : i < xs.length) (g : xs[i.toNat]? = some y) (h : ∀ H2, Chg a H H2 → H2 a = some (.lst (xs.eraseIdx i.toNat)) → Q y H2) : rPopAt (.ref a) [.int i] H Q := by
  have hs : sizeLine = 16777216 := sizeLine_eq
  refine ⟨a, xs, i, i.toNat, y, rfl, rfl, e, by omega, by omega, ?_, g, h _ chg_upd upd_same⟩
  unfold seqIndex?
  have : ¬ i < 0 := by omega
  simp [this, h0, h1]
/-- v[1:] of either kind, walked -/
theorem cut1 (xs : List V) : cutV xs (some 1) none = xs.drop 1 := by
  unfold cutV
  rw [show (1 : Int) = ((1 : Nat) : Int) from rfl, HT.sIx_nat]
  simp [HT.sIx]
  cases xs with
  | nil => rfl
  | cons x r => simp
theorem w_cut1 {b : Addr} {n : V} {r : List V} {i : Nat} {R : It → Hp → Prop} (hs : Sq K H b (n :: r)) (e : σ[i]? = some (some (.ref b))) (h : ∀ J p H2, Same H H2 → SqIt K p r J H2 → R J H2) :
    iSeq K (tSl (rSl3 K) (tVar i) (tPart (tC (.int 1))) tNoPart) σ H R := by
  have e1 : cutV (n :: r) (some 1) none = r := by rw [cut1]; rfl
  rcases hs with hs | hs
  · refine .inl (w_l (e_sl (e_var e (p_so (e_c (k_int (p_no ?_)))))))
    refine .inl (l_L hs fun p H2 np s2 e2 => ?_)
    rw [e1] at e2
    exact k_l (lst_of e2) (h _ p _ s2 (.inl ⟨rfl, lst_of e2⟩))
  · refine .inr (w_t (e_sl (e_var e (p_so (e_c (k_int (p_no ?_)))))))
    refine .inr ⟨b, n :: r, rfl, hs, fun c => ?_, fun _ => new_same (Q := fun x H1 => Wy.KT K x H1 R) fun p H2 np s2 e2 => ?_⟩
    · have := c.1
      rw [show (1 : Int) = ((1 : Nat) : Int) from rfl, HT.sIx_nat, List.length_cons] at this
      omega
    · rw [e1] at e2
      exact k_t (tup_of e2) (h _ p _ s2 (.inr ⟨rfl, tup_of e2⟩))
end
/-! ### chains -/
def dsAt (ds : List Df) (n : Int) : Df := ds.getD n.toNat (0, 0, 0)
def inB (m : Nat) (n : Int) : Bool := decide (0 ≤ n) && decide (n < (m : Int))
def runC : Df → List Df → Option Df
  | t, [] => some t
  | t, d :: r => if d.1 = t.2.1 then runC (t.1, d.2.1, t.2.2 + d.2.2) r else none
def csum (ds : List Df) : List Int → Option Df
  | [] => none
  | n :: r => if (n :: r).all (inB ds.length) = true then runC (dsAt ds n) (r.map (dsAt ds)) else none
def ringB (ds : List Df) (ns : List Int) : Bool := match csum ds ns with
  | none => false
  | some t => decide (t.1 = t.2.1) && decide (t.2.2 < 0)
def floorV (ds : List Df) (ns : List Int) (k : Int) : Option Int := match csum ds ns with
  | none => none
  | some t => if t.1 = 0 ∧ t.2.1 = k then some (-t.2.2) else none
theorem csum_cons {ds : List Df} {n : Int} {r : List Int} : csum ds (n :: r) = if (n :: r).all (inB ds.length) = true then runC (dsAt ds n) (r.map (dsAt ds)) else none := rfl
theorem ringB_none {ds : List Df} {ns : List Int} (e : csum ds ns = none) : ringB ds ns = false := by
  unfold ringB
  rw [e]
theorem ringB_some {ds : List Df} {ns : List Int} {t : Df} (e : csum ds ns = some t) : ringB ds ns = (decide (t.1 = t.2.1) && decide (t.2.2 < 0)) := by
  unfold ringB
  rw [e]
theorem floorV_none {ds : List Df} {ns : List Int} {k : Int} (e : csum ds ns = none) : floorV ds ns k = none := by
  unfold floorV
  rw [e]
theorem floorV_some {ds : List Df} {ns : List Int} {t : Df} {k : Int} (e : csum ds ns = some t) : floorV ds ns k = if t.1 = 0 ∧ t.2.1 = k then some (-t.2.2) else none := by
  unfold floorV
  rw [e]
inductive Path : List Df → Int → Int → Int → Prop
  | nil {u : Int} : Path [] u u 0
  | cons {r : List Df} {u v z c s : Int} : Path r v z s → Path ((u, v, c) :: r) u z (c + s)
theorem Path.app {b : List Df} {z t : Int} : ∀ {a : List Df} {u v s : Int}, Path a u v s → Path b v z t → Path (a ++ b) u z (s + t)
  | _, _, _, _, .nil, h => by
    rw [Int.zero_add]
    exact h
  | _, _, _, _, .cons p, h => by
    rw [Int.add_assoc]
    exact .cons (p.app h)
theorem Path.split {b : List Df} {z : Int} : ∀ {a : List Df} {u s : Int}, Path (a ++ b) u z s → ∃ m s1 s2, Path a u m s1 ∧ Path b m z s2 ∧ s = s1 + s2
  | [], u, s, h => ⟨u, 0, s, .nil, h, by omega⟩
  | d :: a, u, s, h => by
    cases h with
    | cons p =>
      obtain ⟨m, s1, s2, h1, h2, e⟩ := p.split
      exact ⟨m, _, s2, .cons h1, h2, by omega⟩
theorem Path.one {u v c : Int} : Path [(u, v, c)] u v c := by
  have := Path.cons (u := u) (c := c) (Path.nil (u := v))
  rwa [Int.add_zero] at this
theorem run_path {f : Int} : ∀ {es : List Df} {l z s t : Int}, Path es l z s → runC (f, l, t) es = some (f, z, t + s)
  | _, _, _, _, t, .nil => by rw [Int.add_zero]; rfl
  | _, _, _, _, t, .cons p => by
    unfold runC
    rw [if_pos rfl, run_path p]
    simp only [Option.some.injEq, Prod.mk.injEq, true_and]
    omega
theorem csum_path {ds : List Df} {ns : List Int} {u z s : Int} (h : ∀ n ∈ ns, 0 ≤ n ∧ n < ds.length) (p : Path (ns.map (dsAt ds)) u z s) (ne : ns ≠ []) : csum ds ns = some (u, z, s) := by
  cases ns with
  | nil => exact absurd rfl ne
  | cons n r =>
    show (if (n :: r).all (inB ds.length) = true then runC (dsAt ds n) (r.map (dsAt ds)) else none) = _
    rw [if_pos (List.all_eq_true.mpr fun x hx => by
      obtain ⟨h1, h2⟩ := h x hx
      unfold inB
      rw [decide_eq_true h1, decide_eq_true h2]
      rfl)]
    rw [List.map_cons] at p
    generalize dsAt ds n = d at p
    obtain ⟨a, b, c⟩ := d
    cases p with
    | cons p => exact run_path p
theorem kept_path {vs : List Int} : ∀ {es : List Df} {u z s : Int}, Path es u z s → (∀ d ∈ es, kept vs d = true) → lv vs u - lv vs z ≤ s
  | _, _, _, _, .nil, _ => by omega
  | _, u, z, _, .cons (v := v) (c := c) p, h => by
    have h1 := kept_path p fun d hd => h d (List.mem_cons_of_mem _ hd)
    have h2 := of_decide_eq_true (h (u, v, c) List.mem_cons_self)
    simp only at h2
    omega
theorem path_of (nd ws : Nat → Int) : ∀ n : Nat, Path ((List.range n).map fun k => (nd k, nd (k + 1), ws k)) (nd 0) (nd n) (((List.range n).map ws).sum)
  | 0 => .nil
  | n + 1 => by
    rw [List.range_succ, List.map_append, List.map_append, List.sum_append]
    refine (path_of nd ws n).app ?_
    simp only [List.map_cons, List.map_nil, List.sum_cons, List.sum_nil, Int.add_zero]
    exact Path.one
theorem path_rot {es : List Df} {u s : Int} (k : Nat) (p : Path es u u s) : ∃ m, Path (es.drop k ++ es.take k) m m s := by
  rw [← List.take_append_drop k es] at p
  obtain ⟨m, s1, s2, h1, h2, e⟩ := p.split
  refine ⟨m, ?_⟩
  rw [e, Int.add_comm]
  exact h2.app h1
theorem take_sum {ws : List Int} {n : Nat} (h : n ≤ ws.length) : (List.range n).map (fun k => ws.getD k 0) = ws.take n := by
  refine List.ext_getElem? fun j => ?_
  rw [List.getElem?_map, List.getElem?_take]
  by_cases hj : j < n
  · rw [List.getElem?_range hj, if_pos hj, List.getElem?_eq_getElem (by omega)]
    show some (ws.getD j 0) = _
    rw [List.getD_eq_getElem?_getD, List.getElem?_eq_getElem (by omega)]
    rfl
  · rw [List.getElem?_eq_none (by rw [List.length_range]; omega), if_neg hj]
    rfl
section
variable {K : PySem.W.Frag}
/-- the sum of a chain -/
def spChain (K : PySem.W.Frag) : Sp := fun vs H Q _ => ∃ (a b : Addr) (us : List V) (ds : List Df) (ns : List Int), vs = [.ref a, .ref b] ∧ Sq K H a us ∧ TpAll H us (ds.map dfD) ∧ Sq K H b (ns.map V.int) ∧ ds.length ≤ 1000 ∧ ns.length ≤ 1000 ∧
  (csum ds ns = none → ∀ H', Same H H' → Q .non H') ∧ ∀ t : Df, csum ds ns = some t → ∀ p H', Same H H' → H p = none → H' p = some (.tup [.int t.1, .int t.2.1, .int t.2.2]) → Q (.ref p) H'
def spRing (K : PySem.W.Frag) : Sp := fun vs H Q _ => ∃ (a b : Addr) (us : List V) (ds : List Df) (ns : List Int), vs = [.ref a, .ref b] ∧ Sq K H a us ∧ TpAll H us (ds.map dfD) ∧ Sq K H b (ns.map V.int) ∧ ds.length ≤ 1000 ∧ ns.length ≤ 1000 ∧
  ∀ H', Same H H' → Q (.bl (ringB ds ns)) H'
def oI : Option Int → V
  | none => .non
  | some i => .int i
def spFloor (K : PySem.W.Frag) : Sp := fun vs H Q _ => ∃ (a b : Addr) (us : List V) (ds : List Df) (ns : List Int) (k : Int), vs = [.ref a, .ref b, .int k] ∧ Sq K H a us ∧ TpAll H us (ds.map dfD) ∧ Sq K H b (ns.map V.int) ∧ ds.length ≤ 1000 ∧ ns.length ≤ 1000 ∧
  ∀ H', Same H H' → Q (oI (floorV ds ns k)) H'
def spKeeps (K : PySem.W.Frag) : Sp := fun vs H Q _ => ∃ (a b : Addr) (us : List V) (ds : List Df) (vals : List Int), vs = [.ref a, .ref b] ∧ Sq K H a us ∧ TpAll H us (ds.map dfD) ∧ Sq K H b (vals.map V.int) ∧ (∀ d ∈ ds, InR vals.length d) ∧
  ds.length ≤ 1000 ∧ vals.length ≤ 900 ∧ ∀ H', Same H H' → Q (.bl (ds.all (kept vals))) H'
def spTells : Sp := fun vs H Q _ => ∃ x y : Bool, vs = [.bl x, .bl y] ∧ Q (.bl (decide (x = y))) H
def spWt : Sp := fun vs H Q _ => ∃ d : Int, vs = [.int d] ∧ ∀ r : Int, Q (.int r) H
def spDiffs (K : PySem.W.Frag) : Sp := fun vs H Q _ => ∃ (a : Addr) (zs : List Int) (pl : Int) (n m : Nat), vs = [.ref a, .int pl, .int n, .int m] ∧ SqL K H a (zs.map V.int) ∧ n ≤ 100 ∧ m ≤ 1000 ∧
  ∀ p us H' ds, Same H H' → H p = none → H' p = some (.lst us) → TpAll H' us ((ds : List Df).map dfD) → ds.length = n → (∀ d ∈ ds, InR m d) → Q (.ref p) H'
end
end WC
/-! WE: comprehensions of the laws. -/
namespace WE
open PySem PySem.Spec PyProof.Rows L2 Wy WN WQ WS WC
section
variable {K : PySem.W.Frag} {σ : L2.St} {H : Hp} {Q : VK} {te : TE} {vs : List Nat} {i : Nat} {a : Addr}
/-- one value again and again -/
theorem c_const {lo : Int} {n : Nat} {v : V} (hte : ∀ σ H (N : VK), N v H → te σ H N) (hz : n ≤ 100000) (hw : ∀ x, wipe ((wipe σ vs).set i (some x)) vs = wipe σ vs) (post : ∀ D H2, H D = none → Same H H2 → H2 D = some (.lst (List.replicate n v)) → Q (.ref D) H2) :
    LoopC (Itr lo n) (gName i) tYes te vs σ H Q := by
  refine c_accR (One fun _ y _ => y = v) (fun _ _ _ _ _ h => h) (fun i acc H hi h => small1000' (by rw [h.1]; omega)) One.zero (fun j H1 acc N M hj s1 o hN hM => ?_) (fun D H1 ys nD s1 e1 o => ?_)
  · refine g_name ⟨hw _, t_yes ?_⟩
    exact iteTT rfl (hte _ _ _ (hN _ _ (Same.refl _) (o.snoc (fun _ _ h => h) rfl)))
  · rw [o.const] at e1
    exact post D H1 nD s1 e1
theorem c_constI {lo : Int} {n : Nat} {c : Int} (hte : ∀ σ H (N : VK), N (.int c) H → te σ H N) (hz : n ≤ 100000) (hw : ∀ x, wipe ((wipe σ vs).set i (some x)) vs = wipe σ vs) (post : ∀ D H2, H D = none → Same H H2 → H2 D = some (.lst ((List.replicate n c).map V.int)) → Q (.ref D) H2) :
    LoopC (Itr lo n) (gName i) tYes te vs σ H Q := c_const hte hz hw fun D H2 nD s e => post D H2 nD s (by rw [List.map_replicate]; exact e)
/-- an int from each int -/
theorem c_ints {xs : List Int} (hs : SqL K H a (xs.map V.int)) (hte : ∀ (x : Int) H (N : VK), (∀ r : Int, N (.int r) H) → te ((wipe σ vs).set i (some (.int x))) H N) (hz : xs.length ≤ 100000) (hw : ∀ x, wipe ((wipe σ vs).set i (some x)) vs = wipe σ vs)
    (post : ∀ D H2 (rs : List Int), H D = none → Same H H2 → rs.length = xs.length → H2 D = some (.lst (rs.map V.int)) → Q (.ref D) H2) : LoopC (Itl K a) (gName i) tYes te vs σ H Q := by
  refine c_acc (xs := xs.map V.int) (.inl ⟨rfl, hs⟩) (One fun _ y _ => ∃ r : Int, y = .int r) (fun _ _ _ _ _ h => h) (fun i acc H hi h => small1000' (by rw [h.1]; rw [List.length_map] at hi; omega)) One.zero (fun j x H1 acc N M hx s1 o hN hM => ?_) (fun D H1 ys nD s1 e1 o => ?_)
  · rw [List.getElem?_map] at hx
    obtain ⟨d, gd, rfl⟩ := Option.map_eq_some_iff.mp hx
    refine g_name ⟨hw _, t_yes ?_⟩
    exact iteTT rfl (hte _ _ _ fun r => hN _ _ (Same.refl _) (o.snoc (fun _ _ h => h) ⟨r, rfl⟩))
  · rw [List.length_map] at o
    obtain ⟨rs, rfl, lr⟩ := o.ints fun _ _ _ h => h
    exact post D H1 rs nD s1 lr e1
/-- ints by place -/
theorem c_rng {lo : Int} {n : Nat} (F : Nat → Int) (hte : ∀ (j : Nat) H (N : VK), j < n → N (.int (F j)) H → te ((wipe σ vs).set i (some (.int (lo + j)))) H N) (hz : n ≤ 100000) (hw : ∀ x, wipe ((wipe σ vs).set i (some x)) vs = wipe σ vs)
    (post : ∀ D H2, H D = none → Same H H2 → H2 D = some (.lst (((List.range n).map F).map V.int)) → Q (.ref D) H2) : LoopC (Itr lo n) (gName i) tYes te vs σ H Q := by
  refine c_accR (One fun j y _ => y = .int (F j)) (fun _ _ _ _ _ h => h) (fun i acc H hi h => small1000' (by rw [h.1]; omega)) One.zero (fun j H1 acc N M hj s1 o hN hM => ?_) (fun D H1 ys nD s1 e1 o => ?_)
  · refine g_name ⟨hw _, t_yes ?_⟩
    exact iteTT rfl (hte _ _ _ hj (hN _ _ (Same.refl _) (o.snoc (fun _ _ h => h) rfl)))
  · have ey := o.eqR fun j y _ h => h
    rw [ey] at e1
    exact post D H1 nD s1 (by rw [List.map_map]; exact e1)
/-- one datum by place -/
theorem c_tps {lo : Int} {n : Nat} (F : Nat → PyData) (hte : ∀ (j : Nat) H1 (N : VK), j < n → Same H H1 → (∀ y H3, Same H1 H3 → Tp H3 y (F j) → N y H3) → te ((wipe σ vs).set i (some (.int (lo + j)))) H1 N) (hz : n ≤ 100000) (hw : ∀ x, wipe ((wipe σ vs).set i (some x)) vs = wipe σ vs)
    (post : ∀ D H2 us, H D = none → Same H H2 → H2 D = some (.lst us) → TpAll H2 us ((List.range n).map F) → Q (.ref D) H2) : LoopC (Itr lo n) (gName i) tYes te vs σ H Q := by
  refine c_accR (One fun j y H => Tp H y (F j)) (fun i acc H H' k h => ⟨h.1, fun j y e => (h.2 j y e).tk k⟩) (fun i acc H hi h => small1000' (by rw [h.1]; omega)) One.zero (fun j H1 acc N M hj s1 o hN hM => ?_) (fun D H1 ys nD s1 e1 o => ?_)
  · refine g_name ⟨hw _, t_yes ?_⟩
    exact iteTT rfl (hte _ _ _ hj s1 fun y H3 s3 t => hN _ _ s3 (o.snoc (fun _ _ h => h.tk s3.tk) t))
  · exact post D H1 ys nD s1 e1 (tpOne o fun j y _ h => h)
theorem c_rngV {lo : Int} {n : Nat} (F : Nat → V) (hte : ∀ (j : Nat) H (N : VK), j < n → (∀ H3, Same H H3 → N (F j) H3) → te ((wipe σ vs).set i (some (.int (lo + j)))) H N) (hz : n ≤ 100000) (hw : ∀ x, wipe ((wipe σ vs).set i (some x)) vs = wipe σ vs)
    (post : ∀ D H2, H D = none → Same H H2 → H2 D = some (.lst ((List.range n).map F)) → Q (.ref D) H2) : LoopC (Itr lo n) (gName i) tYes te vs σ H Q := by
  refine c_accR (One fun j y _ => y = F j) (fun _ _ _ _ _ h => h) (fun i acc H hi h => small1000' (by rw [h.1]; omega)) One.zero (fun j H1 acc N M hj s1 o hN hM => ?_) (fun D H1 ys nD s1 e1 o => ?_)
  · refine g_name ⟨hw _, t_yes ?_⟩
    exact iteTT rfl (hte _ _ _ hj (fun H3 s3 => hN _ _ s3 (o.snoc (fun _ _ h => h) rfl)))
  · have ey := o.eqR fun j y _ h => h
    rw [ey] at e1
    exact post D H1 nD s1 e1
def KRev (K : PySem.W.Frag) (x : V) (H : Hp) (Q : VK) : Prop := ∃ a xs, x = V.ref a ∧ SqL K H a xs ∧ ∀ p, H p = none → Q (.ref p) (upd H p (.lst xs.reverse))
theorem e_revL (h : te σ H fun x H1 => KRev K x H1 Q) : tRevL K te σ H Q := h
theorem k_rev {xs : List V} (e : H a = some (.lst xs)) (h : ∀ p H2, H p = none → Same H H2 → H2 p = some (.lst xs.reverse) → Q (.ref p) H2) : KRev K (.ref a) H Q := ⟨a, xs, rfl, lst_of e, new_same h⟩
theorem ix_pick {c : Bool} {u v : V} (e : H a = some (.lst [u, v])) (h : Q (if c then v else u) H) : rIx K (.ref a) (.int (if c = true then 1 else 0)) H Q := by
  cases c with
  | true => exact o_ixL (lst_of e) (v := v) rfl h
  | false => exact o_ixL (lst_of e) (v := u) rfl h
theorem o_isB {a b : Bool} (h : Q (.bl (decide (a = b))) H) : rIsB (.bl a) (.bl b) H Q := ⟨a, b, rfl, rfl, h⟩
theorem o_ntB {a b : Bool} (h : Q (.bl (!decide (a = b))) H) : rNotB (.bl a) (.bl b) H Q := ⟨a, b, rfl, rfl, h⟩
theorem cutTo (xs : List V) {i : Int} (h : 0 ≤ i) : cutV xs none (some i) = xs.take i.toNat := by
  obtain ⟨k, rfl⟩ : ∃ k : Nat, i = k := ⟨i.toNat, by omega⟩
  unfold cutV
  rw [HT.sIx_nat, HT.sIx_none, List.drop_zero, Nat.sub_zero, Int.toNat_natCast]
  by_cases hk : k ≤ xs.length
  · rw [Nat.min_eq_left hk]
  · rw [Nat.min_eq_right (by omega), List.take_of_length_le (Nat.le_refl _), List.take_of_length_le (by omega)]
theorem cutFrom (xs : List V) {i : Int} (h : 0 ≤ i) : cutV xs (some i) none = xs.drop i.toNat := by
  obtain ⟨k, rfl⟩ : ∃ k : Nat, i = k := ⟨i.toNat, by omega⟩
  unfold cutV
  rw [HT.sIx_nat, HT.sIx_none, Int.toNat_natCast]
  by_cases hk : k ≤ xs.length
  · rw [Nat.min_eq_left hk, List.take_of_length_le (by rw [List.length_drop]; omega)]
  · rw [Nat.min_eq_right (by omega), List.drop_of_length_le (Nat.le_refl _), List.drop_of_length_le (by omega)]
    simp
theorem ne_ints {H : Hp} {a b v : Addr} {rs : List V} {xs : List Int} (h1 : H a = some (.lst (.ref v :: rs))) (h2 : H b = some (.lst (xs.map V.int))) : b ≠ a := by
  intro e
  subst e
  rw [h1] at h2
  cases xs <;> cases h2
end
end WE
/-! WO: instances of own classes. -/
namespace WO
open PySem PySem.Spec PyProof.Rows L2 Wy WN WQ
/-- a method of a class of the top -/
structure MetOk (K : PySem.W.Frag) (C m qual : Str) (st : Stmt) : Prop where
  ex : ∃ f fd, FunD K m qual (defArgs st) (defBody st) (defScope st) [] [] f fd ∧ Meth K (He.ga K C) m f
structure MakOk (K : PySem.W.Frag) (mg : Str → Option Value) (C qual : Str) (st : Stmt) : Prop where
  ex : ∃ f fd, FunD K "__init__" qual (defArgs st) (defBody st) (defScope st) [] [] f fd ∧ Mk K (He.ga K C) f ∧ mg C = some (.ref (He.ga K C))
section
variable {P : Program} {w : World} {K : PySem.W.Frag} {mg : Str → Option Value} {base : Heap} {C m qual : Str} {st : Stmt} {N ps : List Str} {k : Nat} {sp : Sp}
theorem met_of (F : MetOk K C m qual st) (cl : Cls K (He.ga K C)) (S : FnScope N ps (defScope st)) (hb : ∀ f fd, FunD K m qual (defArgs st) (defBody st) (defScope st) [] [] f fd → Binds K fd ps []) (len : ∀ vs H Q E, sp vs H Q E → vs.length = ps.length)
    (body : ∀ (f : Addr) (cdv : Value) (A : Around) (outer : List Env) (s : Shared) (H : Hp) (vs : List V) (Q : VK) (E : XK), Room k (A.deeper (envOfC qual (defScope st) s.heap.objs.size f cdv)) → sp vs H Q E →
      ∃ t, PSs (cxOf CX0 P w K mg base N qual (defScope st) f cdv A outer s H E).nox (defBody st) t ∧ t { nx := fun _ H' => Q .non H', rt := Q } (start N vs) H) : C8.Met P w K mg base (k + 1) (He.ga K C) m sp [] := by
  obtain ⟨f, fd, F, hm⟩ := F.ex
  refine ⟨f, fd, ps, [], cl, hm, F.ok S len fun cdv A outer s H vs Q E hr h => ?_, hb f fd F, .nil⟩
  obtain ⟨t, h1, h2⟩ := body f cdv A outer s H vs Q E hr h
  exact ⟨t, PSs.nox h1, h2⟩
theorem mak_of (F : MakOk K mg C qual st) (S : FnScope N ps (defScope st)) (hb : ∀ f fd, FunD K "__init__" qual (defArgs st) (defBody st) (defScope st) [] [] f fd → Binds K fd ps []) (len : ∀ vs H Q E, sp vs H Q E → vs.length = ps.length)
    (body : ∀ (f : Addr) (cdv : Value) (A : Around) (outer : List Env) (s : Shared) (H : Hp) (vs : List V) (Q : VK) (E : XK), Room k (A.deeper (envOfC qual (defScope st) s.heap.objs.size f cdv)) → sp vs H Q E →
      ∃ t, PSs (cxOf CX0 P w K mg base N qual (defScope st) f cdv A outer s H E).nox (defBody st) t ∧ t { nx := fun _ H' => Q .non H', rt := Q } (start N vs) H) : C8.Mak P w K mg base (k + 1) C (He.ga K C) sp [] := by
  obtain ⟨f, fd, F, hm, hg⟩ := F.ex
  refine ⟨f, fd, ps, [], hm, F.ok S len fun cdv A outer s H vs Q E hr h => ?_, hg, hb f fd F, .nil⟩
  obtain ⟨t, h1, h2⟩ := body f cdv A outer s H vs Q E hr h
  exact ⟨t, PSs.nox h1, h2⟩
end
section
variable {X : Cx}
theorem pe_fldK {K : PySem.W.Frag} {e : Expr} {f : Str} {pos : Pos} {ta : TE} (he : PE X e ta) (hK : X.K = K := by rfl) (hb : attributeBase e f X.env (eval e X.env) = eval e X.env := by rfl) : PE X (.Attribute e f pos) (tFld K ta f) := hK ▸ pe_fld he hb
theorem ps_fldK {K : PySem.W.Frag} {o value : Expr} {f : Str} {pos pos' : Pos} {ta tv : TE} (ha : PE X o ta) (hv : PE X value tv) (hK : X.K = K := by rfl) (hs : swapsWith value (some (.Attribute o f pos')) pos.line X.env = pure false := by rfl) :
    PS X (.Assign [.Attribute o f pos'] value pos) (sFld K ta tv f) := hK ▸ ps_fld ha hv hs
theorem ps_fldaugK {K : PySem.W.Frag} {o value : Expr} {f : Str} {pos pos' : Pos} {ta tv : TE} {op : Operator} {rd : V → V → Hp → VK → Prop} (ha : PE X o ta) (hv : PE X value tv) (hop : InOp X op rd) (hK : X.K = K := by rfl) :
    PS X (.AugAssign (.Attribute o f pos') op value pos) (sFldAug K ta tv rd f) := hK ▸ ps_fldaug ha hv hop
end
section
variable {K : PySem.W.Frag} {σ : L2.St} {H : Hp} {Q : VK} {D : Ends} {te ta tv : TE} {tl : TA} {v x y : V} {a C dx : Addr} {fs : List (Str × V)} {f m : Str} {sp : Sp} {dvs : List V} {E : XK}
def KFld (K : PySem.W.Frag) (f : Str) (x : V) (H : Hp) (Q : VK) : Prop := ∃ a C dx fs v, x = V.ref a ∧ H a = some (.ins C dx fs) ∧ Cls K C ∧ NoAttr K C f ∧ fs.lookup f = some v ∧ Q v H
theorem e_fld (h : te σ H fun x H1 => KFld K f x H1 Q) : tFld K te f σ H Q := h
theorem k_fld (e : H a = some (.ins C dx fs)) (c : Cls K C) (n : NoAttr K C f) (l : fs.lookup f = some v) (h : Q v H) : KFld K f (.ref a) H Q := ⟨a, C, dx, fs, v, rfl, e, c, n, l, h⟩
def KFldS (K : PySem.W.Frag) (f : Str) (y : V) (D : Ends) (σ : L2.St) (x : V) (H : Hp) : Prop := ∃ a C dx fs, x = V.ref a ∧ H a = some (.ins C dx fs) ∧ Cls K C ∧ NoAttr K C f ∧ fs.length < 1000 ∧ D.nx σ (upd H a (.ins C dx (putF f y fs)))
theorem s_fld (h : tv σ H fun y H1 => ta σ H1 fun x H2 => KFldS K f y D σ x H2) : sFld K ta tv f D σ H := h
theorem k_fldS (e : H a = some (.ins C dx fs)) (c : Cls K C) (n : NoAttr K C f) (l : fs.length < 1000) (h : ∀ H2, Chg a H H2 → H2 a = some (.ins C dx (putF f y fs)) → D.nx σ H2) : KFldS K f y D σ (.ref a) H := ⟨a, C, dx, fs, rfl, e, c, n, l, h _ chg_upd upd_same⟩
theorem s_fldaug {i : Nat} {j c : Int} (ev : σ[i]? = some (some (.ref a))) (e : H a = some (.ins C dx fs)) (cl : Cls K C) (n : NoAttr K C f) (l : fs.lookup f = some (.int j)) (sm : fs.length < 1000) (h : ∀ H2, Chg a H H2 → H2 a = some (.ins C dx (putF f (.int (j + c)) fs)) → D.nx σ H2) :
    sFldAug K (tVar i) (tC (.int c)) rAdd f D σ H := ⟨.ref a, ev, a, C, dx, fs, .int j, rfl, e, cl, n, l, j, c, rfl, rfl, dx, fs, e, sm, h _ chg_upd upd_same⟩
theorem l_tup {xs : List V} {lo hi : Option Int} (e : H a = some (.tup xs)) (nw : ¬ (HT.sIx xs.length 0 lo = 0 ∧ HT.sIx xs.length xs.length hi = xs.length)) (h : ∀ p H2, H p = none → Same H H2 → H2 p = some (.tup (cutV xs lo hi)) → Q (.ref p) H2) : rSlA K (.ref a) lo hi H Q :=
  ⟨a, xs, rfl, tup_of e, fun z => absurd z nw, fun _ => new_same h⟩
def rBool : List V → Hp → VK → Prop := fun xs H Q => (∃ i, xs = [.int i] ∧ Q (.bl (i != 0)) H) ∨ ∃ k, xs = [.bl k] ∧ Q (.bl k) H
theorem call_bool2 {X : Cx} : CallR X (.type "bool") rBool := call_bool1
theorem b_boolB {b : Bool} (h : Q (.bl b) H) : rBool [.bl b] H Q := .inr ⟨b, rfl, h⟩
theorem o_tup0 {x : V} {xs : List V} (e : H a = some (.tup (x :: xs))) (h : Q x H) : rIx K (.ref a) (.int 0) H Q := o_ixT (tup_of e) (atI_nat (j := 0) rfl) h
theorem o_tup1 {x y : V} {xs : List V} (e : H a = some (.tup (x :: y :: xs))) (h : Q y H) : rIx K (.ref a) (.int 1) H Q := o_ixT (tup_of e) (atI_nat (j := 1) rfl) h
def KMeth (C : Addr) (m : Str) (sp : Sp) (dvs : List V) (E : XK) (t : TA) (σ : L2.St) (x : V) (H : Hp) (Q : VK) : Prop := ∃ a dx fs, x = V.ref a ∧ H a = some (.ins C dx fs) ∧ fs.lookup m = none ∧ t σ H fun vs H2 => sp (x :: (vs ++ dvs)) H2 Q E
theorem e_meth (h : te σ H fun x H1 => KMeth C m sp dvs E tl σ x H1 Q) : tMeth C m sp dvs E te tl σ H Q := h
theorem k_meth (e : H a = some (.ins C dx fs)) (l : fs.lookup m = none) (h : tl σ H fun vs H2 => sp (.ref a :: (vs ++ dvs)) H2 Q E) : KMeth C m sp dvs E tl σ (.ref a) H Q := ⟨a, dx, fs, rfl, e, l, h⟩
def KMake (C : Addr) (sp : Sp) (dvs : List V) (E : XK) (vs : List V) (H1 : Hp) (Q : VK) : Prop := ∀ x dx, H1 x = none → H1 dx = none → dx ≠ x → sp (.ref x :: (vs ++ dvs)) (upd (upd H1 dx (.own x)) x (.ins C dx [])) (fun v H2 => v = .non ∧ Q (.ref x) H2) E
theorem e_make (h : tl σ H fun vs H1 => KMake C sp dvs E vs H1 Q) : tMake C sp dvs E tl σ H Q := h
theorem k_make {vs : List V} (h : ∀ x dx H2, H x = none → H dx = none → dx ≠ x → Same H H2 → H2 x = some (.ins C dx []) → H2 dx = some (.own x) → sp (.ref x :: (vs ++ dvs)) H2 (fun v H3 => v = .non ∧ Q (.ref x) H3) E) : KMake C sp dvs E vs H Q := fun x dx nx nd ne =>
  h x dx _ nx nd ne (fun b o e => by rw [upd_ne (ne_of_none e nx), upd_ne (ne_of_none e nd)]; exact e) upd_same (by rw [upd_ne ne]; exact upd_same)
end
section
variable {K : PySem.W.Frag} {H : Hp} {Q : VK} {a b : Addr} {xs ys : List V}
theorem o_catT (ha : H a = some (.tup xs)) (hb : H b = some (.tup ys)) (hz : xs.length + ys.length ≤ sizeLine) (h : ∀ p H2, Same H H2 → H2 p = some (.tup (xs ++ ys)) → Q (.ref p) H2) : rCatA K (.ref a) (.ref b) H Q := by
  refine ⟨a, b, xs, ys, rfl, rfl, tup_of ha, tup_of hb, hz, fun e => h _ _ (Same.refl _) ?_, fun _ e => h _ _ (Same.refl _) ?_, fun _ _ => new_same fun p H2 _ s e => h _ _ s e⟩
  · rw [e, List.nil_append]
    exact hb
  · rw [e, List.append_nil]
    exact ha
end
/-! ### walks of any kind -/
section
variable {K : PySem.W.Frag} {σ : L2.St} {H : Hp} {Q : VK} {D : Ends} {t : TS} {te : TE} {tt : TT} {g : TG} {vs : List Nat} {J : It} {n : Nat} {G : Hp → Prop} {Y : Nat → Hp → V → Hp → Prop} {tl : TA}
theorem f_it (w : Walk J n G Y) (Pv : Nat → L2.St → Hp → Prop) (h0 : Pv 0 σ H) (hG : ∀ i σ H, i ≤ n → Pv i σ H → G H)
    (hs : ∀ i x σ H H', i < n → Pv i σ H → Y i H x H' → g x σ H' fun σ2 H2 => t ⟨Pv (i + 1), D.rt, D.nx, Pv (i + 1)⟩ σ2 H2) (hd : ∀ σ H, Pv n σ H → D.nx σ H) : LoopF J g t D σ H := for_it w Pv h0 hG hs hd
/-- a comprehension: what is taken so far, kept while only the new list changes -/
theorem c_it (w : Walk J n G Y) (R : Addr → Nat → List V → Hp → Prop) (hG : ∀ H', Same H H' → G H') (hY : ∀ i H1 x H2, Y i H1 x H2 → Same H1 H2) (small : n < sizeLine) (len : ∀ D i acc H1, R D i acc H1 → acc.length ≤ i)
    (mono : ∀ D i acc H1 H2, Chg D H1 H2 → (∃ ys, H1 D = some (.lst ys)) → R D i acc H1 → R D i acc H2) (r0 : ∀ D H1, H D = none → Same H H1 → H1 D = some (.lst []) → R D 0 [] H1)
    (step : ∀ D i x H1 H2 acc (N : VK) (M : Hp → Prop), i < n → H D = none → Same H H1 → H1 D = some (.lst acc) → R D i acc H1 → Y i H1 x H2 → Same H1 H2 → (∀ y H3, Same H2 H3 → R D (i + 1) (acc ++ [y]) H3 → N y H3) → (∀ H3, Same H2 H3 → R D (i + 1) acc H3 → M H3) →
      g x (wipe σ vs) H2 fun σ2 H2 => wipe σ2 vs = wipe σ vs ∧ tt σ2 H2 fun b H3 => if b = true then te σ2 H3 N else M H3)
    (post : ∀ D H2 ys, H D = none → Same H H2 → H2 D = some (.lst ys) → R D n ys H2 → Q (.ref D) H2) : LoopC J g tt te vs σ H Q := by
  intro D nD
  refine lc_it w (fun i H1 => Same H H1 ∧ ∃ acc, H1 D = some (.lst acc) ∧ R D i acc H1) ⟨same_new nD, [], upd_same, r0 D _ nD (same_new nD) upd_same⟩ (fun i H1 _ p => hG _ p.1) (fun i x H1 H2 hi p y => ?_) (fun H1 ⟨s1, acc, e1, r1⟩ => post D H1 acc nD s1 e1 r1)
  obtain ⟨s1, acc, e1, r1⟩ := p
  have s2 := hY _ _ _ _ y
  refine step D i x H1 H2 acc _ _ hi nD s1 e1 r1 y s2 (fun y H3 s3 r3 => ?_) (fun H3 s3 r3 => ⟨s1.trans (s2.trans s3), acc, s3 _ _ (s2 _ _ e1), r3⟩)
  have e3 := s3 _ _ (s2 _ _ e1)
  refine ⟨acc, e3, by have := len D i acc H1 r1; omega, (chg_upd (p := D)).same (s1.trans (s2.trans s3)) nD, _, upd_same, mono D _ _ _ _ chg_upd ⟨_, e3⟩ r3⟩
theorem yat_same {xs : List V} {i : Nat} {H1 H2 : Hp} {x : V} (y : YAt xs i H1 x H2) : Same H1 H2 := by
  rw [y.1]
  exact Same.refl _
theorem ypair_same {f1 f2 : Nat → Option V} {i : Nat} {H1 H2 : Hp} {x : V} (y : YPair f1 f2 i H1 x H2) : Same H1 H2 := by
  obtain ⟨T, a, b, rfl, h, rfl, _⟩ := y
  exact same_new h
/-- new lists by place -/
theorem c_rows {lo : Int} {i : Nat} (F : Nat → List V) (hte : ∀ (j : Nat) H1 (N : VK), j < n → Same H H1 → (∀ r H3, Same H1 H3 → H1 r = none → H3 r = some (.lst (F j)) → N (.ref r) H3) → te ((wipe σ vs).set i (some (.int (lo + j)))) H1 N) (hz : n ≤ 100000) (hw : ∀ x, wipe ((wipe σ vs).set i (some x)) vs = wipe σ vs)
    (post : ∀ D H2 (rs : List Addr), H D = none → Same H H2 → H2 D = some (.lst (rs.map V.ref)) → rs.length = n → (∀ (j : Nat) (r : Addr), rs[j]? = some r → H r = none ∧ H2 r = some (.lst (F j))) → Q (.ref D) H2) : LoopC (Itr lo n) (gName i) tYes te vs σ H Q := by
  refine c_it (walk_range (lo := lo) (n := n)) (fun D i acc H4 => acc.length = i ∧ ∀ (j : Nat) (y : V), acc[j]? = some y → ∃ r, y = .ref r ∧ r ≠ D ∧ H r = none ∧ H4 r = some (.lst (F j))) (fun _ _ => True.intro) (fun i H1 x H2 y => by rw [y.1]; exact Same.refl _) (small1000' hz)
    (fun D i acc H1 o => Nat.le_of_eq o.1) (fun D i acc H5 H6 c ⟨ys, e⟩ o => ⟨o.1, fun j y g => ?_⟩) (fun D H4 nD s e => ⟨rfl, fun j y g => by cases g⟩) (fun D j xx H4 H5 acc N M' hi nD s4 eD o y s5 hN hM => ?_) (fun D H4 ys nD s4 e4 o => ?_)
  · obtain ⟨r, rfl, hr, hr0, f⟩ := o.2 j y g
    exact ⟨r, rfl, hr, hr0, c.at f hr⟩
  · obtain ⟨rfl, rfl⟩ := y
    refine g_name ⟨hw _, t_yes ?_⟩
    refine iteTT rfl (hte j _ _ hi s4 fun r H6 s6 n6 e6 => ?_)
    refine hN _ _ s6 ⟨by rw [List.length_append, o.1]; rfl, fun k y g => ?_⟩
    by_cases hj : k < acc.length
    · rw [List.getElem?_append_left hj] at g
      obtain ⟨r1, rfl, hr, hr0, f⟩ := o.2 k y g
      exact ⟨r1, rfl, hr, hr0, s6 _ _ f⟩
    · have hj2 := (List.getElem?_eq_some_iff.mp g).1
      rw [List.length_append, List.length_singleton] at hj2
      have : k = acc.length := by omega
      subst this
      rw [List.getElem?_append_right (Nat.le_refl _), Nat.sub_self] at g
      cases g
      refine ⟨r, rfl, fun e => ?_, s4.free n6, by rw [o.1]; exact e6⟩
      subst e
      rw [eD] at n6
      cases n6
  · obtain ⟨rs, rfl⟩ : ∃ rs : List Addr, ys = rs.map V.ref := by
      have : ∀ ys : List V, (∀ y ∈ ys, ∃ r, y = .ref r) → ∃ rs : List Addr, ys = rs.map V.ref := by
        intro ys
        induction ys with
        | nil => exact fun _ => ⟨[], rfl⟩
        | cons y r ih =>
          intro h
          obtain ⟨i, rfl⟩ := h y List.mem_cons_self
          obtain ⟨xs, rfl⟩ := ih fun z hz => h z (List.mem_cons_of_mem _ hz)
          exact ⟨i :: xs, rfl⟩
      exact this ys fun y hy => by
        obtain ⟨j, hj, e⟩ := List.getElem_of_mem hy
        obtain ⟨r, h, _⟩ := o.2 j y (by rw [List.getElem?_eq_getElem hj, e])
        exact ⟨r, h⟩
    have lr := o.1
    rw [List.length_map] at lr
    refine post D H4 rs nD s4 e4 lr fun j r g => ?_
    obtain ⟨r', h, _, h2, h3⟩ := o.2 j (.ref r) (by rw [List.getElem?_map, g]; rfl)
    cases h
    exact ⟨h2, h3⟩
theorem w_zip {R : It → Hp → Prop} (h : tl σ H fun vs H1 => ∃ a b xs ys, vs = [.ref a, .ref b] ∧ SqL K H1 a xs ∧ SqL K H1 b ys ∧ R (Itz K a b) H1) : iZip K tl σ H R := h
theorem w_enum {R : It → Hp → Prop} (h : tl σ H fun vs H1 => ∃ a xs, vs = [.ref a] ∧ SqL K H1 a xs ∧ R (Ite K a) H1) : iEnum K tl σ H R := h
end
end WO
local macro_rules | `(tactic| walk_at "x") => `(tactic| with_reducible first
  | refine WO.e_fld ?_ | refine WO.s_fld ?_ | refine WO.e_meth ?_ | refine WO.e_make ?_ | refine WC.a_star ?_ | refine WE.e_revL ?_ | (apply WE.k_rev; walk_at "hp"; intro _ _ _ _ _)
  | (apply WO.k_fld; walk_at "hp"; assumption; assumption; with_unfolding_all rfl)
  | (apply WO.k_meth; walk_at "hp"; with_unfolding_all rfl)
  | refine WO.b_boolB ?_ | (apply WO.o_tup0; walk_at "hp") | (apply WO.o_tup1; walk_at "hp") | refine WO.w_zip ?_ | refine WO.w_enum ?_)
/-! WT: tables of bounds. -/
namespace WT
open PySem PySem.Spec PyProof.Rows L2 Wy WN WQ WS WC
abbrev Cell := Option (Int × List Int)
def cellD : Cell → PyData
  | none => .none
  | some p => .tuple [.int p.1, iT p.2]
def joinC (a b : Int × List Int) : Int × List Int := (a.1 + b.1, a.2 ++ b.2)
def shorter (old : Cell) (th : Int × List Int) : Cell → Cell
  | none => old
  | some r => match old with
    | some o => if o.1 ≤ th.1 + r.1 then some o else some (joinC th r)
    | none => some (joinC th r)
theorem shorter_some {o th r : Int × List Int} : shorter (some o) th (some r) = if o.1 ≤ th.1 + r.1 then some o else some (joinC th r) := rfl
def rowStep (known : List Cell) (before : Cell) (step : Int × List Int) (behind : List Cell) : List Cell := match before with
  | none => known
  | some b => (known.zip behind).map fun p => shorter p.1 (joinC b step) p.2
abbrev Tab := List (List Cell)
def cell (M : Tab) (i j : Nat) : Cell := (M.getD i []).getD j none
def bring (M : Tab) (u v : Nat) (step : Int × List Int) : Tab := M.map fun known => rowStep known (known.getD u none) step (M.getD v [])
def Sq2 (M : Tab) (n : Nat) : Prop := M.length = n + 1 ∧ ∀ row ∈ M, row.length = n + 1
/-- the ring that a difference closes -/
def ringOf (M : Tab) (d : Df) : Option (List Int) := match cell M d.2.1.toNat d.1.toNat with
  | some b => if d.2.2 + b.1 < 0 then some b.2 else none
  | none => none
def tieM (M : Tab) (d : Df) (k : Nat) : Tab := match cell M d.1.toNat d.2.1.toNat with
  | some h => if d.2.2 < h.1 then bring M d.1.toNat d.2.1.toNat (d.2.2, [(k : Int)]) else M
  | none => bring M d.1.toNat d.2.1.toNat (d.2.2, [(k : Int)])
def tab0 (n : Nat) : Tab := (List.range (n + 1)).map fun u => (List.range (n + 1)).map fun v => if v = u then some (0, []) else none
theorem cell_at {M : Tab} {n i j : Nat} (h : Sq2 M n) (hi : i ≤ n) (hj : j ≤ n) : ∃ row, M[i]? = some row ∧ row[j]? = some (cell M i j) := by
  have h1 : i < M.length := by rw [h.1]; omega
  have h2 := h.2 _ (List.getElem_mem h1)
  refine ⟨M[i], List.getElem?_eq_getElem h1, ?_⟩
  unfold cell
  rw [List.getD_eq_getElem?_getD (l := M), List.getElem?_eq_getElem h1]
  show M[i][j]? = some (M[i].getD j none)
  rw [List.getD_eq_getElem?_getD, List.getElem?_eq_getElem (by omega)]
  rfl
theorem row_of {M : Tab} {n i : Nat} (h : Sq2 M n) (hi : i ≤ n) : M[i]? = some (M.getD i []) := by
  have h1 : i < M.length := by rw [h.1]; omega
  rw [List.getD_eq_getElem?_getD, List.getElem?_eq_getElem h1]
  rfl
theorem tab0_sq (n : Nat) : Sq2 (tab0 n) n := by
  refine ⟨by simp [tab0], fun row hr => ?_⟩
  obtain ⟨u, _, rfl⟩ := List.mem_map.mp hr
  simp
theorem tab0_cell {n i j : Nat} (hi : i ≤ n) (hj : j ≤ n) : cell (tab0 n) i j = if j = i then some (0, []) else none := by
  unfold cell tab0
  rw [List.getD_eq_getElem?_getD (l := List.map _ _) (i := i), List.getElem?_map, List.getElem?_range (by omega)]
  show ((List.range (n + 1)).map _).getD j none = _
  rw [List.getD_eq_getElem?_getD, List.getElem?_map, List.getElem?_range (by omega)]
  rfl
theorem rowStep_len {known behind : List Cell} {before : Cell} {step : Int × List Int} (h : known.length = behind.length) : (rowStep known before step behind).length = known.length := by
  unfold rowStep
  cases before with
  | none => rfl
  | some b => simp; omega
theorem bring_sq {M : Tab} {n u v : Nat} {step : Int × List Int} (h : Sq2 M n) (hv : v ≤ n) : Sq2 (bring M u v step) n := by
  refine ⟨by unfold bring; rw [List.length_map]; exact h.1, fun row hr => ?_⟩
  obtain ⟨known, hk, rfl⟩ := List.mem_map.mp hr
  have h1 := h.2 _ hk
  have h2 := h.2 _ (List.mem_of_getElem? (row_of h hv))
  rw [rowStep_len (by omega)]
  exact h1
theorem bring_cell {M : Tab} {n u v i j : Nat} {step : Int × List Int} (h : Sq2 M n) (hu : u ≤ n) (hv : v ≤ n) (hi : i ≤ n) (hj : j ≤ n) :
    cell (bring M u v step) i j = match cell M i u with | none => cell M i j | some b => shorter (cell M i j) (joinC b step) (cell M v j) := by
  obtain ⟨row, g1, g2⟩ := cell_at h hi hj
  obtain ⟨_, g3, g4⟩ := cell_at h hi hu
  obtain ⟨rv, g5, g6⟩ := cell_at h hv hj
  rw [g1] at g3
  cases g3
  have gu : row.getD u none = cell M i u := by rw [List.getD_eq_getElem?_getD, g4]; rfl
  have ge : (bring M u v step)[i]? = some (rowStep row (cell M i u) step rv) := by
    unfold bring
    rw [List.getElem?_map, g1, List.getD_eq_getElem?_getD (l := M), g5]
    show some (rowStep row (row.getD u none) step rv) = _
    rw [gu]
  unfold cell
  rw [List.getD_eq_getElem?_getD (l := bring M u v step), ge]
  show (rowStep row (cell M i u) step rv).getD j none = _
  show _ = match cell M i u with | none => cell M i j | some b => shorter (cell M i j) (joinC b step) (cell M v j)
  unfold rowStep
  cases cell M i u with
  | none =>
    show row.getD j none = _
    rw [List.getD_eq_getElem?_getD, g2]
    rfl
  | some b =>
    show ((row.zip rv).map _).getD j none = _
    rw [List.getD_eq_getElem?_getD, List.getElem?_map, show (row.zip rv)[j]? = some (cell M i j, cell M v j) from List.getElem?_zip_eq_some.mpr ⟨g2, g6⟩]
    rfl
/-! ### bounds alone -/
def relax (b x : Option Int) (c : Int) (y : Option Int) : Option Int := match x, y with
  | some x, some y => (match b with
    | some o => if o ≤ x + c + y then some o else some (x + c + y)
    | none => some (x + c + y))
  | _, _ => b
abbrev bd (M : Tab) (i j : Nat) : Option Int := (cell M i j).map (·.1)
theorem bring_bd {M : Tab} {n u v i j : Nat} {step : Int × List Int} (h : Sq2 M n) (hu : u ≤ n) (hv : v ≤ n) (hi : i ≤ n) (hj : j ≤ n) : bd (bring M u v step) i j = relax (bd M i j) (bd M i u) step.1 (bd M v j) := by
  unfold bd
  rw [bring_cell h hu hv hi hj]
  cases cell M i u with
  | none => rfl
  | some b =>
    cases cell M v j with
    | none => cases cell M i j <;> rfl
    | some r =>
      cases cell M i j with
      | none => rfl
      | some o =>
        show (shorter (some o) (joinC b step) (some r)).map _ = (if o.1 ≤ b.1 + step.1 + r.1 then _ else _)
        show (shorter (some o) (joinC b step) (some r)).map _ = (if o.1 ≤ (joinC b step).1 + r.1 then some o.1 else some ((joinC b step).1 + r.1))
        rw [shorter_some]
        by_cases q : o.1 ≤ (joinC b step).1 + r.1
        · rw [if_pos q, if_pos q]
          rfl
        · rw [if_neg q, if_neg q]
          rfl
/-- closed: the ground of all bounds -/
structure Cl (n : Nat) (B : Nat → Nat → Option Int) : Prop where
  diag : ∀ i, i ≤ n → B i i = some 0
  tri : ∀ i k j x y, i ≤ n → k ≤ n → j ≤ n → B i k = some x → B k j = some y → ∃ z, B i j = some z ∧ z ≤ x + y
theorem relax_le {b x y : Option Int} {c z : Int} (h : relax b x c y = some z) : b = some z ∨ ∃ p q, x = some p ∧ y = some q ∧ z = p + c + q := by
  unfold relax at h
  cases x with
  | none => exact .inl h
  | some p =>
    cases y with
    | none => exact .inl h
    | some q =>
      cases b with
      | none => exact .inr ⟨p, q, rfl, rfl, (Option.some.inj h).symm⟩
      | some o =>
        have h : (if o ≤ p + c + q then some o else some (p + c + q)) = some z := h
        split at h
        · exact .inl h
        · exact .inr ⟨p, q, rfl, rfl, (Option.some.inj h).symm⟩
theorem relax_old {x y : Option Int} {c o : Int} : ∃ z, relax (some o) x c y = some z ∧ z ≤ o := by
  unfold relax
  cases x with
  | none => exact ⟨o, rfl, Int.le_refl _⟩
  | some p =>
    cases y with
    | none => exact ⟨o, rfl, Int.le_refl _⟩
    | some q =>
      show ∃ z, (if o ≤ p + c + q then some o else some (p + c + q)) = some z ∧ z ≤ o
      split
      · exact ⟨o, rfl, Int.le_refl _⟩
      · exact ⟨_, rfl, by omega⟩
theorem relax_new {b : Option Int} {c p q : Int} : ∃ z, relax b (some p) c (some q) = some z ∧ z ≤ p + c + q := by
  unfold relax
  cases b with
  | none => exact ⟨_, rfl, Int.le_refl _⟩
  | some o =>
    show ∃ z, (if o ≤ p + c + q then some o else some (p + c + q)) = some z ∧ z ≤ p + c + q
    split
    · exact ⟨o, rfl, by assumption⟩
    · exact ⟨_, rfl, Int.le_refl _⟩
/-- a path by old bounds, made shorter -/
theorem Cl.relax {n u v : Nat} {c : Int} {B : Nat → Nat → Option Int} (h : Cl n B) (hu : u ≤ n) (hv : v ≤ n) (hc : ∀ b, B v u = some b → 0 ≤ c + b) : Cl n fun i j => WT.relax (B i j) (B i u) c (B v j) := by
  refine ⟨fun i hi => ?_, fun i k j x y hi hk hj hx hy => ?_⟩
  · obtain ⟨z, e, le⟩ := relax_old (x := B i u) (y := B v i) (c := c) (o := 0)
    show WT.relax (B i i) _ _ _ = _
    rw [h.diag i hi]
    rcases relax_le e with e2 | ⟨p, q, e2, e3, e4⟩
    · rw [e]
      exact e2.symm
    · obtain ⟨b, e5, le2⟩ := h.tri v i u q p hv hi hu e3 e2
      have := hc b e5
      rw [e]
      exact congrArg some (by omega)
  · show ∃ z, WT.relax (B i j) (B i u) c (B v j) = some z ∧ _
    rcases relax_le hx with e1 | ⟨p, q, e1, e2, e3⟩ <;> rcases relax_le hy with f1 | ⟨p', q', f1, f2, f3⟩
    · obtain ⟨z, g1, g2⟩ := h.tri i k j x y hi hk hj e1 f1
      rw [g1]
      obtain ⟨z', g3, g4⟩ := relax_old (x := B i u) (y := B v j) (c := c) (o := z)
      exact ⟨z', g3, by omega⟩
    · obtain ⟨a, g1, g2⟩ := h.tri i k u x p' hi hk hu e1 f1
      rw [g1, f2]
      obtain ⟨z', g3, g4⟩ := relax_new (b := B i j) (c := c) (p := a) (q := q')
      exact ⟨z', g3, by omega⟩
    · obtain ⟨a, g1, g2⟩ := h.tri v k j q y hv hk hj e2 f1
      rw [g1, e1]
      obtain ⟨z', g3, g4⟩ := relax_new (b := B i j) (c := c) (p := p) (q := a)
      exact ⟨z', g3, by omega⟩
    · obtain ⟨b, g1, g2⟩ := h.tri v k u q p' hv hk hu e2 f1
      have := hc b g1
      rw [e1, f2]
      obtain ⟨z', g3, g4⟩ := relax_new (b := B i j) (c := c) (p := p) (q := q')
      exact ⟨z', g3, by omega⟩
/-- what is not shorter brings nothing -/
theorem Cl.idle {n u v i j : Nat} {c g : Int} {B : Nat → Nat → Option Int} (h : Cl n B) (hu : u ≤ n) (hv : v ≤ n) (hi : i ≤ n) (hj : j ≤ n) (hg : B u v = some g) (hc : g ≤ c) : WT.relax (B i j) (B i u) c (B v j) = B i j := by
  unfold WT.relax
  cases e1 : B i u with
  | none => rfl
  | some p =>
    cases e2 : B v j with
    | none => rfl
    | some q =>
      obtain ⟨a, f1, f2⟩ := h.tri i u v p g hi hu hv e1 hg
      obtain ⟨z, f3, f4⟩ := h.tri i v j a q hi hv hj f1 e2
      rw [f3]
      show (if z ≤ p + c + q then some z else _) = _
      rw [if_pos (by omega)]
theorem tie_bd {M : Tab} {n i j k : Nat} {d : Df} (h : Sq2 M n) (hc : Cl n (bd M)) (hd : InR n d) (hi : i ≤ n) (hj : j ≤ n) : bd (tieM M d k) i j = relax (bd M i j) (bd M i d.1.toNat) d.2.2 (bd M d.2.1.toNat j) := by
  obtain ⟨h0, h1, h2, h3⟩ := hd
  have hu : d.1.toNat ≤ n := by omega
  have hv : d.2.1.toNat ≤ n := by omega
  unfold tieM
  cases e : cell M d.1.toNat d.2.1.toNat with
  | none => exact bring_bd h hu hv hi hj
  | some g =>
    show bd (if d.2.2 < g.1 then _ else M) i j = _
    split
    · exact bring_bd h hu hv hi hj
    · exact (hc.idle hu hv hi hj (g := g.1) (by show (cell M _ _).map _ = _; rw [e]; rfl) (by omega)).symm
theorem tie_sq {M : Tab} {n k : Nat} {d : Df} (h : Sq2 M n) (hd : InR n d) : Sq2 (tieM M d k) n := by
  obtain ⟨h0, h1, h2, h3⟩ := hd
  unfold tieM
  cases e : cell M d.1.toNat d.2.1.toNat with
  | none => exact bring_sq h (by omega)
  | some g =>
    show Sq2 (if d.2.2 < g.1 then _ else M) n
    split
    · exact bring_sq h (by omega)
    · exact h
theorem ring_none {M : Tab} {d : Df} (h : ringOf M d = none) : ∀ b, bd M d.2.1.toNat d.1.toNat = some b → 0 ≤ d.2.2 + b := by
  intro b hb
  unfold bd at hb
  unfold ringOf at h
  cases e : cell M d.2.1.toNat d.1.toNat with
  | none =>
    rw [e] at hb
    cases hb
  | some g =>
    rw [e] at hb h
    have hb : g.1 = b := Option.some.inj hb
    have h : (if d.2.2 + g.1 < 0 then some g.2 else none) = none := h
    split at h
    · cases h
    · omega
/-- lengths -/
def Short (M : Tab) (L : Nat) : Prop := ∀ row ∈ M, ∀ c, some c ∈ row → c.2.length ≤ L
theorem shorter_len {L : Nat} {old rest : Cell} {th : Int × List Int} {c : Int × List Int} (h1 : ∀ c, old = some c → c.2.length ≤ L) (h2 : ∀ r, rest = some r → th.2.length + r.2.length ≤ L) (h : shorter old th rest = some c) : c.2.length ≤ L := by
  unfold shorter at h
  cases rest with
  | none => exact h1 c h
  | some r =>
    have := h2 r rfl
    cases old with
    | none =>
      cases h
      simp only [joinC, List.length_append]
      omega
    | some o =>
      have h : (if o.1 ≤ th.1 + r.1 then some o else some (joinC th r)) = some c := h
      split at h
      · exact h1 c h
      · cases h
        simp only [joinC, List.length_append]
        omega
theorem bring_short {M : Tab} {u v : Nat} {c k : Int} {L : Nat} (h : Short M L) : Short (bring M u v (c, [k])) (2 * L + 1) := by
  intro row hr x hx
  obtain ⟨known, hk, rfl⟩ := List.mem_map.mp hr
  unfold rowStep at hx
  cases e : known.getD u none with
  | none =>
    rw [e] at hx
    have := h known hk x hx
    omega
  | some b =>
    rw [e] at hx
    have hb : b.2.length ≤ L := h known hk b (by
      rw [List.getD_eq_getElem?_getD] at e
      cases e2 : known[u]? with
      | none =>
        rw [e2] at e
        cases e
      | some y =>
        rw [e2] at e
        have e : y = some b := e
        rw [← e]
        exact List.mem_of_getElem? e2)
    obtain ⟨⟨o, r⟩, hp, e2⟩ := List.mem_map.mp hx
    have ho := (List.of_mem_zip hp).1
    have hr := (List.of_mem_zip hp).2
    refine shorter_len (fun c hc => ?_) (fun c hc => ?_) e2
    · have := h known hk c (hc ▸ ho)
      omega
    · have hm : M.getD v [] ∈ M := by
        rw [List.getD_eq_getElem?_getD] at hr ⊢
        cases e3 : M[v]? with
        | none =>
          rw [e3] at hr
          cases hr
        | some y => exact List.mem_of_getElem? e3
      have := h _ hm c (hc ▸ hr)
      simp only [joinC, List.length_append, List.length_singleton]
      omega
theorem tie_short {M : Tab} {d : Df} {k L : Nat} (h : Short M L) : Short (tieM M d k) (2 * L + 1) := by
  have h' : Short M (2 * L + 1) := fun r hr c hc => by have := h r hr c hc; omega
  unfold tieM
  cases e : cell M d.1.toNat d.2.1.toNat with
  | none => exact bring_short h
  | some g =>
    show Short (if d.2.2 < g.1 then _ else M) _
    split
    · exact bring_short h
    · exact h'
/-! ### a System in the heap -/
structure Spot where
  dx : Addr
  dl : Addr
  tp : Addr
  rs : List Addr
def RowAt (H : Hp) (r : Addr) (row : List Cell) : Prop := ∃ cs, H r = some (.lst cs) ∧ TpAll H cs (row.map cellD)
abbrev sysFs (S : Spot) (n : Nat) : List (Str × V) := [("many", .int n), ("differences", .ref S.dl), ("_table", .ref S.tp)]
structure SysAt (K : PySem.W.Frag) (H : Hp) (x : Addr) (S : Spot) (n : Nat) (ds : List Df) (M : Tab) : Prop where
  ins : H x = some (.ins (He.ga K "System") S.dx (sysFs S n))
  diffs : ∃ us, H S.dl = some (.lst us) ∧ TpAll H us (ds.map dfD)
  tab : H S.tp = some (.lst (S.rs.map V.ref))
  len : S.rs.length = M.length
  rows : ∀ (i : Nat) (r : Addr) (row : List Cell), S.rs[i]? = some r → M[i]? = some row → RowAt H r row
  ap1 : S.dl ∉ S.rs
  ap2 : S.dl ≠ S.tp
  sq : Sq2 M n
/-- what stands, but for some places -/
def KeepBut (A : List Addr) (H H' : Hp) : Prop := ∀ b o, b ∉ A → H b = some o → H' b = some o
theorem KeepBut.refl {A : List Addr} {H : Hp} : KeepBut A H H := fun _ _ _ e => e
theorem KeepBut.trans {A : List Addr} {H H1 H2 : Hp} (h : KeepBut A H H1) (k : KeepBut A H1 H2) : KeepBut A H H2 := fun b o n e => k b o n (h b o n e)
theorem Same.but {A : List Addr} {H H1 : Hp} (s : Same H H1) : KeepBut A H H1 := fun b o _ e => s b o e
theorem Chg.but {A : List Addr} {p : Addr} {H H1 : Hp} (c : Chg p H H1) (h : p ∈ A) : KeepBut A H H1 := fun b o n e => c.at e (fun q => n (q ▸ h))
theorem KeepBut.mono {A B : List Addr} {H H1 : Hp} (h : KeepBut A H H1) (s : ∀ a ∈ A, a ∈ B) : KeepBut B H H1 := fun b o n e => h b o (fun q => n (s b q)) e
/-- not a tuple -/
def noTup : HO → Bool
  | .tup _ => false
  | _ => true
theorem KeepBut.tk {A : List Addr} {H H1 : Hp} (h : KeepBut A H H1) (ht : ∀ a ∈ A, ∃ o, H a = some o ∧ noTup o = true) : TK H H1 := fun a xs e => h a _ (fun q => by
  obtain ⟨o, e2, n⟩ := ht a q
  rw [e] at e2
  cases e2
  cases n) e
theorem SysAt.keep {K : PySem.W.Frag} {H H' : Hp} {x : Addr} {S : Spot} {n : Nat} {ds : List Df} {M : Tab} (s : SysAt K H x S n ds M) {A : List Addr} (k : KeepBut A H H') (tk : TK H H') (h1 : x ∉ A) (h2 : S.dl ∉ A) (h3 : S.tp ∉ A) (h4 : ∀ r ∈ S.rs, r ∉ A) : SysAt K H' x S n ds M := by
  obtain ⟨us, e1, t1⟩ := s.diffs
  refine ⟨k _ _ h1 s.ins, ⟨us, k _ _ h2 e1, t1.tk tk⟩, k _ _ h3 s.tab, s.len, fun i r row hr hm => ?_, s.ap1, s.ap2, s.sq⟩
  obtain ⟨cs, e2, t2⟩ := s.rows i r row hr hm
  exact ⟨cs, k _ _ (h4 r (List.mem_of_getElem? hr)) e2, t2.tk tk⟩
theorem SysAt.same {K : PySem.W.Frag} {H H' : Hp} {x : Addr} {S : Spot} {n : Nat} {ds : List Df} {M : Tab} (s : SysAt K H x S n ds M) (k : Same H H') : SysAt K H' x S n ds M :=
  s.keep (A := []) (Same.but k) k.tk (by simp) (by simp) (by simp) (by simp)
theorem SysAt.get {K : PySem.W.Frag} {H : Hp} {x : Addr} {S : Spot} {n : Nat} {ds : List Df} {M : Tab} (s : SysAt K H x S n ds M) {u : Nat} (hu : u ≤ n) : ∃ r cs, S.rs[u]? = some r ∧ H r = some (.lst cs) ∧ TpAll H cs ((M.getD u []).map cellD) ∧ cs.length = n + 1 := by
  have hm := row_of s.sq hu
  have hl := s.sq.2 _ (List.mem_of_getElem? hm)
  have h1 : u < S.rs.length := by rw [s.len, s.sq.1]; omega
  obtain ⟨cs, e, t⟩ := s.rows u S.rs[u] _ (List.getElem?_eq_getElem h1) hm
  refine ⟨_, cs, List.getElem?_eq_getElem h1, e, t, ?_⟩
  rw [t.length, List.length_map]
  exact hl
theorem row_cell {H : Hp} {M : Tab} {n u v : Nat} {cs : List V} (hq : Sq2 M n) (hu : u ≤ n) (hv : v ≤ n) (t : TpAll H cs ((M.getD u []).map cellD)) : ∃ y, cs[v]? = some y ∧ Tp H y (cellD (cell M u v)) := by
  obtain ⟨row, g1, g2⟩ := cell_at hq hu hv
  have : M.getD u [] = row := by rw [List.getD_eq_getElem?_getD, g1]; rfl
  rw [this] at t
  exact tpAt t g2
theorem cellN {H : Hp} {y : V} {c : Cell} (t : Tp H y (cellD c)) (e : c = none) : y = .non := by
  subst e
  cases t
  rfl
theorem cellS {H : Hp} {y : V} {c : Cell} {p : Int × List Int} (t : Tp H y (cellD c)) (e : c = some p) : ∃ a b, y = .ref a ∧ H a = some (.tup [.int p.1, .ref b]) ∧ H b = some (.tup (p.2.map V.int)) := by
  subst e
  obtain ⟨a, v1, v2, rfl, e, t1, t2⟩ := WQ.tp2 (show Tp H y (.tuple [.int p.1, iT p.2]) from t)
  cases t1
  obtain ⟨b, rfl, e2⟩ := tpI t2
  exact ⟨a, b, rfl, e, e2⟩
theorem cellT {H : Hp} {a b : Addr} {p : Int × List Int} (e : H a = some (.tup [.int p.1, .ref b])) (e2 : H b = some (.tup (p.2.map V.int))) : Tp H (.ref a) (cellD (some p)) := .tup e (.cons (.int _) (.cons (iT_tp e2) .nil))
theorem refs_of {ys : List V} (h : ∀ (j : Nat) (y : V), ys[j]? = some y → ∃ r, y = .ref r) : ∃ rs : List Addr, ys = rs.map V.ref := by
  have : ∀ ys : List V, (∀ y ∈ ys, ∃ r, y = .ref r) → ∃ rs : List Addr, ys = rs.map V.ref := by
    intro ys
    induction ys with
    | nil => exact fun _ => ⟨[], rfl⟩
    | cons y r ih =>
      intro h
      obtain ⟨i, rfl⟩ := h y List.mem_cons_self
      obtain ⟨xs, rfl⟩ := ih fun z hz => h z (List.mem_cons_of_mem _ hz)
      exact ⟨i :: xs, rfl⟩
  refine this ys fun y hy => ?_
  obtain ⟨j, hj, e⟩ := List.getElem_of_mem hy
  exact h j y (by rw [List.getElem?_eq_getElem hj, e])
/-! ### promises -/
section
variable {K : PySem.W.Frag}
def spSysInit (K : PySem.W.Frag) : Sp := fun vs H Q _ => ∃ (x dx : Addr) (n : Nat), vs = [.ref x, .int n] ∧ H x = some (.ins (He.ga K "System") dx []) ∧ n ≤ 1000 ∧
  ∀ H' S, KeepBut [x] H H' → SysAt K H' x S n [] (tab0 n) → S.dx = dx → H S.dl = none → H S.tp = none → (∀ r ∈ S.rs, H r = none) → Q .non H'
def spBound (K : PySem.W.Frag) : Sp := fun vs H Q _ => ∃ (x : Addr) (S : Spot) (n : Nat) (ds : List Df) (M : Tab) (u v : Int), vs = [.ref x, .int u, .int v] ∧ SysAt K H x S n ds M ∧ 0 ≤ u ∧ u ≤ n ∧ 0 ≤ v ∧ v ≤ n ∧ Q (oI (bd M u.toNat v.toNat)) H
def spTie (K : PySem.W.Frag) : Sp := fun vs H Q _ => ∃ (x : Addr) (d : V) (S : Spot) (n : Nat) (ds : List Df) (M : Tab) (df : Df) (L : Nat), vs = [.ref x, d] ∧ SysAt K H x S n ds M ∧ Tp H d (dfD df) ∧ InR n df ∧ ds.length ≤ 1000 ∧ n ≤ 1000 ∧ Short M L ∧ 2 * L + 1 ≤ 5000000 ∧
  (∀ bs, ringOf M df = some bs → ∀ p H', KeepBut [S.dl] H H' → H p = none → H' p = some (.tup (((ds.length : Int) :: bs).map V.int)) → Q (.ref p) H') ∧
  (ringOf M df = none → ∀ H' S', KeepBut [x, S.dl] H H' → SysAt K H' x S' n (ds ++ [df]) (tieM M df ds.length) → S'.dx = S.dx → S'.dl = S.dl → (S'.tp = S.tp ∨ H S'.tp = none) → (∀ r ∈ S'.rs, r ∈ S.rs ∨ H r = none) → Q .non H')
def spBring (K : PySem.W.Frag) : Sp := fun vs H Q _ => ∃ (x st : Addr) (S : Spot) (n : Nat) (ds : List Df) (M : Tab) (u v : Int) (p : Int × List Int) (L : Nat), vs = [.ref x, .int u, .int v, .ref st] ∧ SysAt K H x S n ds M ∧ Tp H (.ref st) (cellD (some p)) ∧ 0 ≤ u ∧ u ≤ n ∧ 0 ≤ v ∧ v ≤ n ∧ n ≤ 1000 ∧ Short M L ∧ 2 * L + p.2.length ≤ 5000000 ∧
  ∀ H' S', KeepBut [x] H H' → SysAt K H' x S' n ds (bring M u.toNat v.toNat p) → S'.dx = S.dx → S'.dl = S.dl → H S'.tp = none → (∀ r ∈ S'.rs, r ∈ S.rs ∨ H r = none) → Q .non H'
def spRowS (K : PySem.W.Frag) : Sp := fun vs H Q _ => ∃ (r bh : Addr) (bf st : V) (cs ks : List V) (row behind : List Cell) (before : Cell) (p : Int × List Int) (L : Nat), vs = [.ref r, bf, st, .ref bh] ∧ H r = some (.lst cs) ∧ TpAll H cs (row.map cellD) ∧ Tp H bf (cellD before) ∧ Tp H st (cellD (some p)) ∧
  H bh = some (.lst ks) ∧ TpAll H ks (behind.map cellD) ∧ row.length = behind.length ∧ row.length ≤ 2000 ∧ (∀ c, before = some c → c.2.length ≤ L) ∧ (∀ c, some c ∈ behind → c.2.length ≤ L) ∧ 2 * L + p.2.length ≤ 5000000 ∧
  ∀ q H' cs', Same H H' → H' q = some (.lst cs') → TpAll H' cs' ((rowStep row before p behind).map cellD) → (q = r ∨ H q = none) → Q (.ref q) H'
def spJoin (K : PySem.W.Frag) : Sp := fun vs H Q _ => ∃ (x y : V) (a b : Int × List Int), vs = [x, y] ∧ Tp H x (cellD (some a)) ∧ Tp H y (cellD (some b)) ∧ a.2.length + b.2.length ≤ 6000000 ∧ ∀ p H', Same H H' → Tp H' p (cellD (some (joinC a b))) → Q p H'
def spShorter (K : PySem.W.Frag) : Sp := fun vs H Q _ => ∃ (x y z : V) (old rest : Cell) (a : Int × List Int), vs = [x, y, z] ∧ Tp H x (cellD old) ∧ Tp H y (cellD (some a)) ∧ Tp H z (cellD rest) ∧ (∀ c, rest = some c → a.2.length + c.2.length ≤ 6000000) ∧ ∀ p H', Same H H' → Tp H' p (cellD (shorter old a rest)) → Q p H'
def spRaised (K : PySem.W.Frag) : Sp := fun vs H Q _ => ∃ (a b e : Addr) (zs : List Int) (us : List V) (ds : List Df) (vals : List Int), vs = [.ref a, .ref b, .ref e] ∧ SqL K H a (zs.map V.int) ∧ H b = some (.lst us) ∧ TpAll H us (ds.map dfD) ∧ H e = some (.lst (vals.map V.int)) ∧ (∀ d ∈ ds, InR vals.length d) ∧ ds.length ≤ 900 ∧ vals.length ≤ 900 ∧
  ∀ p H' us' ds', Same H H' → H p = none → H' p = some (.lst us') → TpAll H' us' ((ds' : List Df).map dfD) → ds'.length = ds.length → (∀ d ∈ ds', InR vals.length d) → Q (.ref p) H'
/-! ### matrices of bounds -/
structure MatAt (H : Hp) (p : Addr) (rs : List Addr) (n : Nat) (B : Nat → Nat → Option Int) : Prop where
  tab : H p = some (.lst (rs.map V.ref))
  len : rs.length = n + 1
  rows : ∀ (i : Nat) (r : Addr), rs[i]? = some r → H r = some (.lst ((List.range (n + 1)).map fun j => oI (B i j)))
theorem MatAt.same {H H' : Hp} {p : Addr} {rs : List Addr} {n : Nat} {B : Nat → Nat → Option Int} (m : MatAt H p rs n B) (s : Same H H') : MatAt H' p rs n B := ⟨s _ _ m.tab, m.len, fun i r g => s _ _ (m.rows i r g)⟩
theorem MatAt.keep {H H' : Hp} {p : Addr} {rs : List Addr} {n : Nat} {B : Nat → Nat → Option Int} (m : MatAt H p rs n B) {A : List Addr} (k : KeepBut A H H') (h1 : p ∉ A) (h2 : ∀ r ∈ rs, r ∉ A) : MatAt H' p rs n B := ⟨k _ _ h1 m.tab, m.len, fun i r g => k _ _ (h2 r (List.mem_of_getElem? g)) (m.rows i r g)⟩
theorem MatAt.cong {H : Hp} {p : Addr} {rs : List Addr} {n : Nat} {B B' : Nat → Nat → Option Int} (m : MatAt H p rs n B) (h : ∀ i j, i ≤ n → j ≤ n → B i j = B' i j) : MatAt H p rs n B' := ⟨m.tab, m.len, fun i r g => by
  have hi := (List.getElem?_eq_some_iff.mp g).1
  have hl := m.len
  rw [m.rows i r g]
  refine congrArg (fun z => some (HO.lst z)) (List.map_congr_left fun j hj => ?_)
  rw [h i j (by omega) (by have := List.mem_range.mp hj; omega)]⟩
theorem ix_mat {K : PySem.W.Frag} {H : Hp} {Q : VK} {p : Addr} {rs : List Addr} {n : Nat} {B : Nat → Nat → Option Int} (m : MatAt H p rs n B) {i : Int} (h0 : 0 ≤ i) (h1 : i ≤ n) (h : ∀ r, rs[i.toNat]? = some r → H r = some (.lst ((List.range (n + 1)).map fun j => oI (B i.toNat j))) → Q (.ref r) H) : rIx K (.ref p) (.int i) H Q := by
  have hl := m.len
  have g := List.getElem?_eq_getElem (l := rs) (i := i.toNat) (by omega)
  exact o_ixL (lst_of m.tab) (atI_of (j := i.toNat) (by omega) (v := .ref rs[i.toNat]) (by rw [List.getElem?_map, g]; rfl)) (h _ g (m.rows _ _ g))
theorem ix_row {K : PySem.W.Frag} {H : Hp} {Q : VK} {r : Addr} {n : Nat} {F : Nat → Option Int} (e : H r = some (.lst ((List.range (n + 1)).map fun j => oI (F j)))) {i : Int} (h0 : 0 ≤ i) (h1 : i ≤ n) (h : Q (oI (F i.toNat)) H) : rIx K (.ref r) (.int i) H Q :=
  o_ixL (lst_of e) (atI_of (j := i.toNat) (by omega) (by rw [List.getElem?_map, List.getElem?_range (by omega)]; rfl)) h
theorem mat_of {H : Hp} {p : Addr} {rs : List Addr} {n : Nat} {B : Nat → Nat → Option Int} (e : H p = some (.lst (rs.map V.ref))) (l : rs.length = n + 1) (h : ∀ (i : Nat) (r : Addr), rs[i]? = some r → H r = some (.lst ((List.range (n + 1)).map fun j => oI (B i j)))) : MatAt H p rs n B := ⟨e, l, h⟩
theorem tab0_bd {n i j : Nat} (hi : i ≤ n) (hj : j ≤ n) : bd (tab0 n) i j = if i = j then some 0 else none := by
  unfold bd
  rw [tab0_cell hi hj]
  by_cases h : i = j
  · rw [if_pos h, if_pos h.symm]
    rfl
  · rw [if_neg h, if_neg (fun e => h e.symm)]
    rfl
theorem tab0_cl (n : Nat) : Cl n (bd (tab0 n)) := ⟨fun i hi => by rw [tab0_bd hi hi, if_pos rfl], fun i k j x y hi hk hj hx hy => by
  rw [tab0_bd hi hk] at hx
  rw [tab0_bd hk hj] at hy
  split at hx
  · split at hy
    · cases hx
      cases hy
      refine ⟨0, ?_, by omega⟩
      rw [tab0_bd hi hj, if_pos (by omega)]
    · cases hy
  · cases hx⟩
theorem tab0_short (n : Nat) : Short (tab0 n) 0 := fun row hr c hc => by
  obtain ⟨u, _, rfl⟩ := List.mem_map.mp hr
  obtain ⟨v, _, e⟩ := List.mem_map.mp hc
  split at e
  · cases e
    exact Nat.le_refl _
  · cases e
theorem tie_cl {M : Tab} {n k : Nat} {d : Df} (h : Sq2 M n) (hc : Cl n (bd M)) (hd : InR n d) (hr : ringOf M d = none) : Cl n (bd (tieM M d k)) := by
  have := hc.relax (u := d.1.toNat) (v := d.2.1.toNat) (c := d.2.2) (by have := hd.2.1; omega) (by have := hd.2.2.2; omega) (ring_none hr)
  exact ⟨fun i hi => by rw [tie_bd h hc hd hi hi]; exact this.diag i hi, fun i k j x y hi hk hj hx hy => by
    rw [tie_bd h hc hd hi hk] at hx
    rw [tie_bd h hc hd hk hj] at hy
    rw [tie_bd h hc hd hi hj]
    exact this.tri i k j x y hi hk hj hx hy⟩
def spJoinM : Sp := fun vs H Q _ => ∃ (a : Addr) (d : V) (rs : List Addr) (n : Nat) (B : Nat → Nat → Option Int) (df : Df), vs = [.ref a, d] ∧ MatAt H a rs n B ∧ Tp H d (dfD df) ∧ InR n df ∧ n ≤ 1000 ∧
  ∀ p H' rs', Same H H' → H p = none → (∀ r ∈ rs', H r = none) → MatAt H' p rs' n (fun i j => relax (B i j) (B i df.1.toNat) df.2.2 (B df.2.1.toNat j)) → Q (.ref p) H'
end
end WT
namespace K10
open PySem PySem.Spec PyProof.Rows L2 Wy
/-! ### the text -/
def top (i : Nat) : Stmt := PySem.Challenge.pw_wayorring_k10_watch_for_a_place.main.body.getD i (.Pass ⟨0, 0, 0, 0⟩)
def mth (i j : Nat) : Stmt := (C8.clsBody (top i)).getD j (.Pass ⟨0, 0, 0, 0⟩)
abbrev s_wall : Stmt := top 0
abbrev n_wall : List Str := ["k"]
theorem sc_wall : FnScope n_wall ["k"] (defScope s_wall) := C8.fnScope_by (by decide +kernel)
abbrev s_Watch___init : Stmt := mth 2 0
abbrev n_Watch___init : List Str := ["self", "place"]
theorem sc_Watch___init : FnScope n_Watch___init ["self", "place"] (defScope s_Watch___init) := C8.fnScope_by (by decide +kernel)
abbrev s_Watch_wanted : Stmt := mth 2 1
abbrev n_Watch_wanted : List Str := ["self", "event", "atom"]
theorem sc_Watch_wanted : FnScope n_Watch_wanted ["self", "event"] (defScope s_Watch_wanted) := C8.fnScope_by (by decide +kernel)
abbrev s_Watch_see : Stmt := mth 2 2
abbrev n_Watch_see : List Str := ["self", "event", "truth", "atom", "meets"]
theorem sc_Watch_see : FnScope n_Watch_see ["self", "event", "truth"] (defScope s_Watch_see) := C8.fnScope_by (by decide +kernel)
abbrev s_Watch_twin : Stmt := mth 2 3
abbrev n_Watch_twin : List Str := ["self"]
theorem sc_Watch_twin : FnScope n_Watch_twin ["self"] (defScope s_Watch_twin) := C8.fnScope_by (by decide +kernel)
abbrev s_Watch__next_atom : Stmt := mth 2 4
abbrev n_Watch__next_atom : List Str := ["self"]
theorem sc_Watch__next_atom : FnScope n_Watch__next_atom ["self"] (defScope s_Watch__next_atom) := C8.fnScope_by (by decide +kernel)
abbrev s_law_draws : Stmt := top 4
abbrev n_law_draws : List Str := ["script", "many", "cell", "rests", "draws", "k", "at", "mixed"]
theorem sc_law_draws : FnScope n_law_draws ["script", "many"] (defScope s_law_draws) := C8.fnScope_by (by decide +kernel)
abbrev s_law_take : Stmt := top 5
abbrev n_law_take : List Str := ["hand", "many", "at", "draws"]
theorem sc_law_take : FnScope n_law_take ["hand", "many"] (defScope s_law_take) := C8.fnScope_by (by decide +kernel)
abbrev s_law_event : Stmt := top 6
abbrev n_law_event : List Str := ["hand", "base", "row", "kind"]
theorem sc_law_event : FnScope n_law_event ["hand", "base"] (defScope s_law_event) := C8.fnScope_by (by decide +kernel)
abbrev s_law_atom : Stmt := top 7
abbrev n_law_atom : List Str := ["hand", "base", "sign", "left", "right"]
theorem sc_law_atom : FnScope n_law_atom ["hand", "base"] (defScope s_law_atom) := C8.fnScope_by (by decide +kernel)
abbrev s_law_meets : Stmt := top 8
abbrev n_law_meets : List Str := ["atom", "event", "truth"]
theorem sc_law_meets : FnScope n_law_meets ["atom", "event", "truth"] (defScope s_law_meets) := C8.fnScope_by (by decide +kernel)
abbrev s_law_reached : Stmt := top 9
abbrev n_law_reached : List Str := ["place", "events", "truths", "atoms", "many", "found", "k", "longer", "choice", "at"]
theorem sc_law_reached : FnScope n_law_reached ["place", "events", "truths", "atoms", "many"] (defScope s_law_reached) := C8.fnScope_by (by decide +kernel)
abbrev s_law_wanted : Stmt := top 10
abbrev n_law_wanted : List Str := ["place", "progress", "event"]
theorem sc_law_wanted : FnScope n_law_wanted ["place", "progress", "event"] (defScope s_law_wanted) := C8.fnScope_by (by decide +kernel)
abbrev s_law : Stmt := top 11
abbrev n_law : List Str := ["script", "hand", "base", "k", "place", "second", "events", "truths", "watch", "progress", "due", "truth", "found", "met", "atoms", "whole", "one"]
theorem sc_law : FnScope n_law ["script"] (defScope s_law) := C8.fnScope_by (by decide +kernel)
/-! ### what the top has made -/
structure Tx (K : PySem.W.Frag) (mg : Str → Option Value) : Prop where
  d_wall : DefOk K mg "_wall" s_wall
  d_law_draws : DefOk K mg "_law_draws" s_law_draws
  d_law_take : DefOk K mg "_law_take" s_law_take
  d_law_event : DefOk K mg "_law_event" s_law_event
  d_law_atom : DefOk K mg "_law_atom" s_law_atom
  d_law_meets : DefOk K mg "_law_meets" s_law_meets
  d_law_reached : DefOk K mg "_law_reached" s_law_reached
  d_law_wanted : DefOk K mg "_law_wanted" s_law_wanted
  d_law : DefOk K mg "law" s_law
  c_Watch : Cls K (He.ga K "Watch")
  a_Watch_progress : NoAttr K (He.ga K "Watch") "progress"
  a_Watch__place : NoAttr K (He.ga K "Watch") "_place"
  d_Watch___init : WO.MakOk K mg "Watch" "Watch.__init__" s_Watch___init
  d_Watch_wanted : WO.MetOk K "Watch" "wanted" "Watch.wanted" s_Watch_wanted
  d_Watch_see : WO.MetOk K "Watch" "see" "Watch.see" s_Watch_see
  d_Watch_twin : WO.MetOk K "Watch" "twin" "Watch.twin" s_Watch_twin
  d_Watch__next_atom : WO.MetOk K "Watch" "_next_atom" "Watch._next_atom" s_Watch__next_atom
  z_abs : mg "abs" = none
  z_bool : mg "bool" = none
  z_int : mg "int" = none
  z_isinstance : mg "isinstance" = none
  z_len : mg "len" = none
  z_max : mg "max" = none
  z_range : mg "range" = none
  z_tuple : mg "tuple" = none
/-! ### the head -/
def fn : List He.DefD := [⟨("_wall", none), "_wall", "_wall", defArgs s_wall, defBody s_wall, defScope s_wall, [], []⟩, ⟨("_law_draws", none), "_law_draws", "_law_draws", defArgs s_law_draws, defBody s_law_draws, defScope s_law_draws, [], []⟩, ⟨("_law_take", none), "_law_take", "_law_take", defArgs s_law_take, defBody s_law_take, defScope s_law_take, [], []⟩, ⟨("_law_event", none), "_law_event", "_law_event", defArgs s_law_event, defBody s_law_event, defScope s_law_event, [], []⟩, ⟨("_law_atom", none), "_law_atom", "_law_atom", defArgs s_law_atom, defBody s_law_atom, defScope s_law_atom, [], []⟩, ⟨("_law_meets", none), "_law_meets", "_law_meets", defArgs s_law_meets, defBody s_law_meets, defScope s_law_meets, [], []⟩, ⟨("_law_reached", none), "_law_reached", "_law_reached", defArgs s_law_reached, defBody s_law_reached, defScope s_law_reached, [], []⟩, ⟨("_law_wanted", none), "_law_wanted", "_law_wanted", defArgs s_law_wanted, defBody s_law_wanted, defScope s_law_wanted, [], []⟩, ⟨("law", none), "law", "law", defArgs s_law, defBody s_law, defScope s_law, [], []⟩, ⟨("Watch", some "__init__"), "__init__", "Watch.__init__", defArgs s_Watch___init, defBody s_Watch___init, defScope s_Watch___init, [], []⟩, ⟨("Watch", some "wanted"), "wanted", "Watch.wanted", defArgs s_Watch_wanted, defBody s_Watch_wanted, defScope s_Watch_wanted, [], []⟩, ⟨("Watch", some "see"), "see", "Watch.see", defArgs s_Watch_see, defBody s_Watch_see, defScope s_Watch_see, [], []⟩, ⟨("Watch", some "twin"), "twin", "Watch.twin", defArgs s_Watch_twin, defBody s_Watch_twin, defScope s_Watch_twin, [], []⟩, ⟨("Watch", some "_next_atom"), "_next_atom", "Watch._next_atom", defArgs s_Watch__next_atom, defBody s_Watch__next_atom, defScope s_Watch__next_atom, [], []⟩]
def fa : List He.Fa := [.glo "_wall", .glo "_law_draws", .glo "_law_take", .glo "_law_event", .glo "_law_atom", .glo "_law_meets", .glo "_law_reached", .glo "_law_wanted", .glo "law", .free "abs", .free "bool", .free "int", .free "isinstance", .free "len", .free "max", .free "range", .free "tuple", .glo "Watch", .cls "Watch", .noat "Watch" "progress", .noat "Watch" "_place", .mkr "Watch", .meth "Watch" "wanted", .meth "Watch" "see", .meth "Watch" "twin", .meth "Watch" "_next_atom"]
def ts : List He.Tab := []
def ex (K : PySem.W.Frag) : Bool := true
abbrev R : PySem.W.OpenRow := PySem.W.OpenLaw.row PySem.Challenge.rw_wayorring_k10_watch_for_a_place
abbrev hk : PySem.W.Hook := He.hookX 6 fa fn ts [] ex
def ob (s : PySem.W.SharedT) : He.AlX := He.obsX 6 fa fn ts [] ex (HandSHeadRun.getT s)
theorem ob_eq (s : PySem.W.SharedT) : ob s = hk.obs s.abs := He.obsX_eq (HandSHeadRun.getT_eq s)
def loose : List Str := (["_wall", "Watch", "_law_draws", "_law_take", "_law_event", "_law_atom", "_law_meets", "_law_reached", "_law_wanted"] : List Str)
set_option maxHeartbeats 0 in
theorem run (w : World) : HandSHeadRun.RunEq R (PySem.W.view R.prog [11]) hk ob 20000 loose w := by
  intro os
  kernel_rfl
theorem tx_of {w : World} {K : PySem.W.Frag} {h h2 : Heap} {mg : Str → Option Value} (X : K.In h) (G : h.Ns mainGlobals mg) (c2 : He.SaysX fa fn ts [] ex w h2 K) : Tx K mg := by
  have c := c2.t.d
  have m : ex K = true := c2.more
  refine ⟨?_, ?_, ?_, ?_, ?_, ?_, ?_, ?_, ?_, ?_, ?_, ?_, ?_, ?_, ?_, ?_, ?_, ?_, ?_, ?_, ?_, ?_, ?_, ?_, ?_⟩
  · obtain ⟨fd, F⟩ := c.def_ 0 rfl
    exact ⟨_, fd, F, He.glo_ok X G (c.fact 0 (f := .glo "_wall") rfl)⟩
  · obtain ⟨fd, F⟩ := c.def_ 1 rfl
    exact ⟨_, fd, F, He.glo_ok X G (c.fact 1 (f := .glo "_law_draws") rfl)⟩
  · obtain ⟨fd, F⟩ := c.def_ 2 rfl
    exact ⟨_, fd, F, He.glo_ok X G (c.fact 2 (f := .glo "_law_take") rfl)⟩
  · obtain ⟨fd, F⟩ := c.def_ 3 rfl
    exact ⟨_, fd, F, He.glo_ok X G (c.fact 3 (f := .glo "_law_event") rfl)⟩
  · obtain ⟨fd, F⟩ := c.def_ 4 rfl
    exact ⟨_, fd, F, He.glo_ok X G (c.fact 4 (f := .glo "_law_atom") rfl)⟩
  · obtain ⟨fd, F⟩ := c.def_ 5 rfl
    exact ⟨_, fd, F, He.glo_ok X G (c.fact 5 (f := .glo "_law_meets") rfl)⟩
  · obtain ⟨fd, F⟩ := c.def_ 6 rfl
    exact ⟨_, fd, F, He.glo_ok X G (c.fact 6 (f := .glo "_law_reached") rfl)⟩
  · obtain ⟨fd, F⟩ := c.def_ 7 rfl
    exact ⟨_, fd, F, He.glo_ok X G (c.fact 7 (f := .glo "_law_wanted") rfl)⟩
  · obtain ⟨fd, F⟩ := c.def_ 8 rfl
    exact ⟨_, fd, F, He.glo_ok X G (c.fact 8 (f := .glo "law") rfl)⟩
  · exact He.cls_ok (c.fact 18 (f := .cls "Watch") rfl)
  · exact He.noat_ok (c.fact 19 (f := .noat "Watch" "progress") rfl)
  · exact He.noat_ok (c.fact 20 (f := .noat "Watch" "_place") rfl)
  · obtain ⟨fd, F⟩ := c.def_ 9 rfl
    exact ⟨_, fd, F, He.mkr_ok (c.fact 21 (f := .mkr "Watch") rfl), He.glo_ok X G (c.fact 17 (f := .glo "Watch") rfl)⟩
  · obtain ⟨fd, F⟩ := c.def_ 10 rfl
    exact ⟨_, fd, F, He.meth_ok (c.fact 22 (f := .meth "Watch" "wanted") rfl)⟩
  · obtain ⟨fd, F⟩ := c.def_ 11 rfl
    exact ⟨_, fd, F, He.meth_ok (c.fact 23 (f := .meth "Watch" "see") rfl)⟩
  · obtain ⟨fd, F⟩ := c.def_ 12 rfl
    exact ⟨_, fd, F, He.meth_ok (c.fact 24 (f := .meth "Watch" "twin") rfl)⟩
  · obtain ⟨fd, F⟩ := c.def_ 13 rfl
    exact ⟨_, fd, F, He.meth_ok (c.fact 25 (f := .meth "Watch" "_next_atom") rfl)⟩
  · exact He.free_ok X G (c.fact 9 (f := .free "abs") rfl)
  · exact He.free_ok X G (c.fact 10 (f := .free "bool") rfl)
  · exact He.free_ok X G (c.fact 11 (f := .free "int") rfl)
  · exact He.free_ok X G (c.fact 12 (f := .free "isinstance") rfl)
  · exact He.free_ok X G (c.fact 13 (f := .free "len") rfl)
  · exact He.free_ok X G (c.fact 14 (f := .free "max") rfl)
  · exact He.free_ok X G (c.fact 15 (f := .free "range") rfl)
  · exact He.free_ok X G (c.fact 16 (f := .free "tuple") rfl)
def spLaw (K : PySem.W.Frag) : Sp := fun vs H Q _ => ∃ (a : Addr) (ns : List Int), vs = [.ref a] ∧ SqL K H a (ns.map V.int) ∧ ns.length ≤ 63 ∧ ∀ H', Q (.bl true) H'
end K10
namespace K10
open PySem PySem.Spec PyProof.Rows L2 Wy WN WQ WS

section
variable {P : Program} {w : World} {K : PySem.W.Frag} {mg : Str → Option Value} {base : Heap}
theorem k_law_take (T : Tx K mg) : C8.Cal P w K mg base 1 "_law_take" spTake [] := by
  refine cal_of (N := n_law_take) T.d_law_take sc_law_take (fun _ _ F => F.bindsN fun _ _ _ _ _ _ us hl => match us, hl with | [_, _], _ => rfl) (fun vs H Q E h => ?_) (fun f cdv A outer s H vs Q E hr h => ?_)
  · obtain ⟨a, d, m, rfl, _⟩ := h
    rfl
  · obtain ⟨a, d, m, rfl, hh, hm, q⟩ := h
    have nd := hh.ne
    obtain ⟨n, ds, h1, h2, h3⟩ := hh
    refine ⟨_, (pss_cons (ps_asg (pe_ix (ix_seq : IxR _ (rIx K)) (pv 0) pe_int (fun _ _ => rfl)) (pg_name (i := 2) sc_law_take.nd rfl (Or.inl rfl))) (pss_cons (ps_asg (pe_op op_add3 (pv 2) pe_int) (pg_sub (pv 0) pe_int set_list)) (pss_cons (ps_asg (pe_ix (ix_seq : IxR _ (rIx K)) (pv 0) pe_int (fun _ _ => rfl)) (pg_name (i := 3) sc_law_take.nd rfl (Or.inl rfl))) (pss_cons (ps_if (pt_cmpR op_ge (pv 2) (pe_callB (call_len2 : CallR _ _ (rLn K)) (by rfl) T.z_len (by decide +kernel) (pa_cons (pv 3) pa_nil)) (nomark _)) (pss_one (ps_ret pe_int)) pss_nil) (pss_one (ps_ret (pe_op op_mod (pe_op op_fdiv (pe_callTy call_int2 (by rfl) T.z_int (by decide +kernel) (pa_cons (pe_ix (ix_seq : IxR _ (rIx K)) (pv 3) (pv 2) (fun _ _ => rfl)) pa_nil)) pe_int) (pv 1)))))))), ?_⟩
    walk_at "ss"
    refine o_ixL (lst_of h1) (atI_nat (j := 1) rfl) ?_
    walk_at "ss"
    refine st_L h1 (j := 1) rfl fun H2 c2 e2 => ?_
    have h3' := c2.at h3 nd
    walk_at "ss"
    refine o_ixL (lst_of e2) (atI_nat (j := 0) rfl) ?_
    walk_at "ss"
    refine b_lenL (lst_of h3') ?_
    walk_at "ss"
    refine ite2 (fun e => ?_) (fun e => ?_)
    · walk_at "ss"
      exact q 0 H2 (Int.le_refl 0) hm c2 ⟨n + 1, ds, e2, by omega, h3'⟩
    · have e := of_decide_eq_false (Bool.eq_false_iff.mpr e)
      rw [List.length_map] at e
      have g : (ds.map V.int)[n.toNat]? = some (.int ds[n.toNat]) := by
        rw [List.getElem?_map, List.getElem?_eq_getElem (by omega)]
        rfl
      walk_at "ss"
      refine o_ixL (lst_of h3') (atI_of (j := n.toNat) (by omega) g) ?_
      walk_at "ss"
      exact q _ H2 (Int.emod_nonneg _ (by omega)) (Int.emod_lt_of_pos _ hm) c2 ⟨n + 1, ds, e2, by omega, h3'⟩
def spHandDr (K : PySem.W.Frag) : Sp := fun vs H Q _ => ∃ (a : Addr) (ns : List Int) (m : Int), vs = [.ref a, .int m] ∧ SqL K H a (ns.map V.int) ∧ ns.length ≤ 63 ∧ 0 ≤ m ∧ m ≤ 10000 ∧ ∀ p H' ds, Same H H' → H p = none → H' p = some (.lst ((ds : List Int).map V.int)) → Q (.ref p) H'
theorem k_law_draws (T : Tx K mg) : C8.Cal P w K mg base 1 "_law_draws" (spHandDr K) [] := by
  refine cal_of (N := n_law_draws) T.d_law_draws sc_law_draws (fun _ _ F => F.bindsN fun _ _ _ _ _ _ us hl => match us, hl with | [_, _], _ => rfl) (fun vs H Q E h => ?_) (fun f cdv A outer s H vs Q E hr h => ?_)
  · obtain ⟨a, ns, m, rfl, _⟩ := h
    rfl
  · obtain ⟨a, ns, m, rfl, hS, hl, h0, hm, q⟩ := h
    refine ⟨_, (pss_cons (ps_setLc (i := 3) (own := [("cell", 2)]) (g := gName 2) (by rfl) sc_law_draws.nd rfl rfl (sw_true rfl rfl rfl (by decide +kernel)) (pi_list (pv 0) : PI _ _ _ (iList K _)) (blkOk_by (own := [("cell", 2)]) (N := n_law_draws) (sc := defScope s_law_draws) (by decide +kernel)) (fun _ _ _ _ _ => pg_name (i := 2) sc_law_draws.nd rfl (Or.inl rfl)) (fun _ _ _ _ _ => pts_nil) (fun _ _ _ _ _ => (pe_callB call_abs2 (by rfl) T.z_abs (by decide +kernel) (pa_cons (pe_callTy call_int2 (by rfl) T.z_int (by decide +kernel) (pa_cons (pv 2) pa_nil)) pa_nil)))) (pss_cons (ps_asg (pe_lst pa_nil) (pg_name (i := 4) sc_law_draws.nd rfl (Or.inl rfl))) (pss_cons (ps_for PassesOwn.never rfl (pi_range1 (by rfl) T.z_range (pa_cons (pv 1) pa_nil)) (pg_name (i := 5) sc_law_draws.nd rfl (Or.inl rfl)) (pss_cons (ps_asg (pv 5) (pg_name (i := 2) sc_law_draws.nd rfl (Or.inl rfl))) (C8.pss_cut (ps_if (pt_cmpR op_gt (pe_callB (call_len2 : CallR _ _ (rLn K)) (by rfl) T.z_len (by decide +kernel) (pa_cons (pv 0) pa_nil)) pe_int (nomark _)) (pss_cons (ps_asg (pe_op op_mod (pv 5) (pe_callB (call_len2 : CallR _ _ (rLn K)) (by rfl) T.z_len (by decide +kernel) (pa_cons (pv 0) pa_nil))) (pg_name (i := 6) sc_law_draws.nd rfl (Or.inl rfl))) (pss_cons (ps_asg (pe_callTy call_int2 (by rfl) T.z_int (by decide +kernel) (pa_cons (pe_ix (ix_seq : IxR _ (rIx K)) (pv 0) (pv 6) (fun _ _ => rfl)) pa_nil)) (pg_name (i := 2) sc_law_draws.nd rfl (Or.inl rfl))) (pss_one (ps_if (PW.pt (pw_and (pt_cmpR op_ge (pv 2) (pe_op op_pow pe_int pe_int) (nomark _)) (pw_and1 (pt_cmpR op_gt (pe_ix (ix_seq : IxR _ (rIx K)) (pv 3) (pv 6) (fun _ _ => rfl)) pe_int (nomark _))))) (pss_cons (ps_expr (pe_bm PySem.F.plainAttrs_list PySem.F.slot_list_append PySem.F.type_list_append mt_append (pv 4) (pa_cons (pe_op op_mod (pe_callTy call_int2 (by rfl) T.z_int (by decide +kernel) (pa_cons (pe_ix (ix_seq : IxR _ (rIx K)) (pv 3) (pv 6) (fun _ _ => rfl)) pa_nil)) pe_int) pa_nil) : PE _ _ (tBM K _ _ _ _))) (pss_cons (ps_asg (pe_op op_fdiv (pe_callTy call_int2 (by rfl) T.z_int (by decide +kernel) (pa_cons (pe_ix (ix_seq : IxR _ (rIx K)) (pv 3) (pv 6) (fun _ _ => rfl)) pa_nil)) pe_int) (pg_sub (pv 3) (pv 6) set_list)) (pss_one ps_continue))) pss_nil)))) pss_nil) (pss_cons (ps_asg (pe_op op_mod (pe_callTy call_int2 (by rfl) T.z_int (by decide +kernel) (pa_cons (pe_op op_add3 (pe_op op_add3 (pe_op op_mul2 (pv 2) pe_int) (pe_op op_mul2 (pv 5) pe_int)) pe_int) pa_nil)) pe_int) (pg_name (i := 7) sc_law_draws.nd rfl (Or.inl rfl))) (pss_cons (ps_asg (pe_op op_mod (pe_callTy call_int2 (by rfl) T.z_int (by decide +kernel) (pa_cons (pe_op op_add3 (pe_op op_fdiv (pe_op op_mul2 (pv 7) (pv 7)) pe_int) (pv 7)) pa_nil)) pe_int) (pg_name (i := 7) sc_law_draws.nd rfl (Or.inl rfl))) (pss_one (ps_expr (pe_bm PySem.F.plainAttrs_list PySem.F.slot_list_append PySem.F.type_list_append mt_append (pv 4) (pa_cons (pe_op op_mod (pe_callTy call_int2 (by rfl) T.z_int (by decide +kernel) (pa_cons (pe_op op_add3 (pe_op op_fdiv (pe_op op_mul2 (pv 7) (pv 7)) pe_int) (pe_op op_mul2 (pv 5) pe_int)) pa_nil)) pe_int) pa_nil) : PE _ _ (tBM K _ _ _ _))))))))) (pss_one (ps_ret (pv 4)))))), ?_⟩
    walk_at "ss"
    refine k_l hS ?_
    refine c_list (xs := ns.map V.int) (fun D i H1 => Same H H1 ∧ ∃ rs : List Int, rs.length = i ∧ H1 D = some (.lst (rs.map V.int))) (fun D H1 nD s1 e1 => ⟨s1, [], rfl, e1⟩) (fun D i H1 hi nD p => p.1.seq hS) (fun D i x H1 hx nD p => ?_) (fun D H1 nD p => ?_)
    · obtain ⟨s1, rs, lr, er⟩ := p
      have hi := (List.getElem?_eq_some_iff.mp hx).1
      rw [List.length_map] at hi
      obtain ⟨z, rfl⟩ : ∃ z, x = V.int z := by
        rw [List.getElem?_map] at hx
        cases e : ns[i]? with
        | none =>
          rw [e] at hx
          cases hx
        | some z =>
          rw [e] at hx
          exact ⟨z, (Option.some.inj hx).symm⟩
      walk_at "ss"
      refine ⟨rfl, ?_⟩
      walk_at "ss"
      refine iteT ?_
      walk_at "ss"
      exact c_out er (by rw [List.length_map, lr]; exact small1000 (by omega)) fun H2 c2 e2 => ⟨c2.same s1 nD, rs ++ [if z < 0 then -z else z], by simp [lr], by rw [List.map_append]; exact e2⟩
    · obtain ⟨s1, rs, lr, er⟩ := p
      rw [List.length_map] at lr
      walk_at "ss"
      refine n_obj (Nat.zero_le _) fun d H2 nd s2 e2 => ?_
      have nrd : D ≠ d := ne_of_none er nd
      have nd0 : H d = none := s1.free nd
      walk_at "ss"
      refine k_r1 (by omega) (by omega) ?_
      refine f_range (fun i σ H' => ∃ c k t x, ∃ ds rs : List Int, σ = [some (.ref a), some (.int m), c, some (.ref D), some (.ref d), k, t, x] ∧ Same H H' ∧ H' D = some (.lst (rs.map V.int)) ∧ rs.length = ns.length ∧ H' d = some (.lst (ds.map V.int)) ∧ ds.length ≤ i)
        ⟨_, _, _, _, [], rs, rfl, s1.trans s2, s2 _ _ er, lr, e2, Nat.le_refl _⟩ (fun i σ H3 hi p => ?_) (fun σ H3 p => ?_)
      · obtain ⟨c, k, t, x, ds, rs, rfl, s3, e3, l3, f3, g3⟩ := p
        have sz : (ds.map V.int).length < sizeLine := small1000' (by rw [List.length_map]; omega)
        walk_at "ss"
        refine s_cut (fun σ H' => ∃ (c : Int) (t x : Option V) (rs : List Int), σ = [some (.ref a), some (.int m), some (.int c), some (.ref D), some (.ref d), some (.int (0 + (i : Int))), t, x] ∧ Same H H' ∧ H' D = some (.lst (rs.map V.int)) ∧ rs.length = ns.length ∧ H' d = some (.lst (ds.map V.int))) ?_ (fun σ H4 p => ?_)
        · walk_at "ss"
          refine b_lenL (s3.seq hS) ?_
          walk_at "ss"
          refine ite2 (fun e => ?_) (fun e => ?_)
          · have e := of_decide_eq_true e
            rw [List.length_map] at e
            walk_at "ss"
            refine b_lenL (s3.seq hS) ?_
            rw [List.length_map]
            refine o_mod e ?_
            walk_at "ss"
            have b1 : 0 ≤ (0 + (i : Int)) % (ns.length : Int) := Int.emod_nonneg _ (by omega)
            have b2 : (0 + (i : Int)) % (ns.length : Int) < (ns.length : Int) := Int.emod_lt_of_pos _ e
            obtain ⟨j, hj⟩ : ∃ j : Nat, (0 + (i : Int)) % (ns.length : Int) = (j : Int) := ⟨_, (Int.toNat_of_nonneg b1).symm⟩
            rw [hj]
            have hj1 : j < ns.length := by omega
            have hj2 : j < rs.length := by omega
            have g1 : (ns.map V.int)[j]? = some (.int ns[j]) := by
              rw [List.getElem?_map, List.getElem?_eq_getElem hj1]
              rfl
            have g2 : (rs.map V.int)[j]? = some (.int rs[j]) := by
              rw [List.getElem?_map, List.getElem?_eq_getElem hj2]
              rfl
            refine o_ixL (s3.seq hS) (atI_nat g1) ?_
            walk_at "ss"
            refine ite2 (fun e => ?_) (fun e => ?_)
            · walk_at "ss"
              refine o_ixL (lst_of e3) (atI_nat g2) ?_
              walk_at "ss"
              refine ite2 (fun e => ?_) (fun e => ?_)
              · walk_at "ss"
                refine m_ty (lst_of f3) ?_
                walk_at "ss"
                refine o_ixL (lst_of e3) (atI_nat g2) ?_
                walk_at "ss"
                refine m_app f3 sz fun H4 c4 f4 => ?_
                have e4 := c4.at e3 nrd
                have s4 := c4.same s3 nd0
                walk_at "ss"
                refine o_ixL (lst_of e4) (atI_nat g2) ?_
                walk_at "ss"
                refine st_L e4 (j := j) (ixN_nat (by rw [List.length_map]; exact hj2)) fun H5 c5 e5 => ?_
                have f5 := c5.at f4 nrd.symm
                have s5 := c5.same s4 nD
                walk_at "ss"
                refine ⟨_, _, _, _, ds ++ [rs[j] % 1000003], rs.set j (rs[j] / 1000003), rfl, s5, ?_, by rw [List.length_set]; exact l3, ?_, by rw [List.length_append]; exact Nat.succ_le_succ g3⟩
                · rw [e5, List.map_set]
                · rw [f5, List.map_append]
                  rfl
              · walk_at "ss"
                exact ⟨_, _, _, rs, rfl, s3, e3, l3, f3⟩
            · walk_at "ss"
              refine iteF ?_
              walk_at "ss"
              exact ⟨_, _, _, rs, rfl, s3, e3, l3, f3⟩
          · walk_at "ss"
            exact ⟨_, _, _, rs, rfl, s3, e3, l3, f3⟩
        · obtain ⟨c, t, x, rs, rfl, s3, e3, l3, f3⟩ := p
          walk_at "ss"
          refine m_ty (lst_of f3) ?_
          walk_at "ss"
          refine m_app f3 sz fun H5 c5 f5 => ?_
          obtain ⟨ds', f6, l6⟩ := snoc_int f5
          exact ⟨_, _, _, _, ds', rs, rfl, c5.same s3 nd0, c5.at e3 nrd, l3, f6, by omega⟩
      · obtain ⟨c, k, t, x, ds, rs, rfl, s3, e3, l3, f3, g3⟩ := p
        walk_at "ss"
        exact q d H3 ds s3 nd0 f3
end
end K10
namespace K10
open PySem PySem.Spec PyProof.Rows L2 Wy WN WQ WS WC WE WO

-- WIDE
/-! ### events and atoms -/
inductive Ev where
  | row (r : Int)
  | yes (r : Int)
  | no (r : Int)
  | turn (r k : Int)
  | fault (r : Int) (z : Str)
deriving DecidableEq
abbrev FK : List Str := ["range", "index", "turns", "check", "late"]
abbrev SGN : List Str := ["<", "<=", ">", ">=", "==", "!="]
abbrev LF : List PyData := [.tuple [.str "var", .str "a", .int 0], .tuple [.str "item", .str "xs", .tuple [.str "num", .int 1], .int 2], .tuple [.str "num", .int 3]]
abbrev RT : List PyData := [.tuple [.str "var", .str "b", .int (-1)], .tuple [.str "item", .str "xs", .tuple [.str "var", .str "a", .int 0], .int 0], .tuple [.str "num", .int 7]]
def Ev.d : Ev → PyData
  | .row r => .tuple [.str "row", .int r]
  | .yes r => .tuple [.str "yes", .int r]
  | .no r => .tuple [.str "no", .int r]
  | .turn r k => .tuple [.str "turn", .int r, .int k]
  | .fault r z => .tuple [.str "fault", .int r, .str z]
def Ev.ok : Ev → Prop
  | .fault _ z => z ∈ FK
  | _ => True
inductive Atm where
  | ev (e : Ev)
  | wh (r : Int) (s : Str) (l m : PyData)
def Atm.d : Atm → PyData
  | .ev e => e.d
  | .wh r s l m => .tuple [.str "when", .int r, .str s, l, m]
def Atm.ok : Atm → Prop
  | .ev e => e.ok
  | .wh _ s l m => s ∈ SGN ∧ l ∈ LF ∧ m ∈ RT
def meets (a : Atm) (e : Ev) (t : Bool) : Bool := match a with
  | .ev e' => decide (e = e')
  | .wh r _ _ _ => decide (e = .row r) && t
def wantA (a : Atm) (e : Ev) : Option PyData := match a with
  | .ev _ => none
  | .wh r s l m => if e = .row r then some (.tuple [.str s, l, m]) else none
def wanted (as : List Atm) (p : Nat) (e : Ev) : Option PyData := match as[p]? with
  | none => none
  | some a => wantA a e
def oD : Option PyData → PyData
  | none => .none
  | some d => d
theorem meets_wh {r : Int} {s : Str} {l m : PyData} {e : Ev} {t : Bool} : meets (.wh r s l m) e t = (decide (e = .row r) && t) := rfl
theorem wantA_wh {r : Int} {s : Str} {l m : PyData} {e : Ev} : wantA (.wh r s l m) e = if e = .row r then some (.tuple [.str s, l, m]) else none := rfl
theorem Ev.d_inj {e e' : Ev} : e.d = e'.d ↔ e = e' := by
  constructor
  · intro h
    have n1 : ¬ (Str.ofString "row" = Str.ofString "yes") := by decide +kernel
    have n2 : ¬ (Str.ofString "row" = Str.ofString "no") := by decide +kernel
    have n3 : ¬ (Str.ofString "yes" = Str.ofString "no") := by decide +kernel
    cases e <;> cases e' <;> simp_all [Ev.d, n1, n2, n3, Ne.symm n1, Ne.symm n2, Ne.symm n3]
  · intro h
    rw [h]
theorem str_lay {x : Str} (h : (PyData.str x).canLay0 = true) : (PyData.str x).canLay0 = true ∧ (PyData.str x).depth ≤ 0 := ⟨h, by simp [PyData.depth]⟩
theorem Ev.lay {e : Ev} (h : e.ok) : e.d.canLay0 = true ∧ e.d.depth ≤ 1 := by
  have fk : ∀ z ∈ FK, (PyData.str z).canLay0 = true := by decide +kernel
  cases e with
  | row r => exact lay_tup (n := 0) (List.forall_mem_cons.mpr ⟨str_lay (by decide +kernel), List.forall_mem_cons.mpr ⟨lay_int r, fun _ h => by cases h⟩⟩)
  | yes r => exact lay_tup (n := 0) (List.forall_mem_cons.mpr ⟨str_lay (by decide +kernel), List.forall_mem_cons.mpr ⟨lay_int r, fun _ h => by cases h⟩⟩)
  | no r => exact lay_tup (n := 0) (List.forall_mem_cons.mpr ⟨str_lay (by decide +kernel), List.forall_mem_cons.mpr ⟨lay_int r, fun _ h => by cases h⟩⟩)
  | turn r k => exact lay_tup (n := 0) (List.forall_mem_cons.mpr ⟨str_lay (by decide +kernel), List.forall_mem_cons.mpr ⟨lay_int r, List.forall_mem_cons.mpr ⟨lay_int k, fun _ h => by cases h⟩⟩⟩)
  | fault r z => exact lay_tup (n := 0) (List.forall_mem_cons.mpr ⟨str_lay (by decide +kernel), List.forall_mem_cons.mpr ⟨lay_int r, List.forall_mem_cons.mpr ⟨str_lay (fk z h), fun _ h => by cases h⟩⟩⟩)
theorem Ev.nb {e : Ev} : WQ.nb e.d = true := by cases e <;> rfl
theorem Ev.sh {e : Ev} (h : e.ok) : SeqAt.shaped e.d = true := shaped_of (Ev.lay h).1 (by have := (Ev.lay h).2; omega)
/-- an event against another one -/
theorem eq_ev {K : PySem.W.Frag} {H : Hp} {Q : VK} {x y : V} {e e' : Ev} (h1 : Tp H x e.d) (h2 : Tp H y e'.d) (o1 : e.ok) (o2 : e'.ok) (h : Q (.bl (decide (e = e'))) H) : rEq2 K x y H Q := by
  refine eq_nb h1.dp h2.dp (Ev.sh o1) (Ev.sh o2) Ev.nb Ev.nb (fun q => ?_) (fun q => ?_)
  · rw [decide_eq_true (Ev.d_inj.mp q)] at h
    exact h
  · rw [decide_eq_false (fun z => q (Ev.d_inj.mpr z))] at h
    exact h
theorem ne_ev {K : PySem.W.Frag} {H : Hp} {Q : VK} {x y : V} {e e' : Ev} (h1 : Tp H x e.d) (h2 : Tp H y e'.d) (o1 : e.ok) (o2 : e'.ok) (h : Q (.bl (!decide (e = e'))) H) : rNe2 K x y H Q := by
  refine ne_nb h1.dp h2.dp (Ev.sh o1) (Ev.sh o2) Ev.nb Ev.nb (fun q => ?_) (fun q => ?_)
  · rw [decide_eq_true (Ev.d_inj.mp q)] at h
    exact h
  · rw [decide_eq_false (fun z => q (Ev.d_inj.mpr z))] at h
    exact h
/-- an atom's tuple -/
theorem atm_at {H : Hp} {v : V} {a : Atm} (h : Tp H v a.d) : ∃ (p : Addr) (z : Str) (r : Int) (us : List V), v = .ref p ∧ H p = some (.tup (.str z :: .int r :: us)) ∧
    ((∃ e, a = .ev e ∧ ¬ V.str z = V.str "when") ∨ ∃ s l m x y, a = .wh r s l m ∧ z = "when" ∧ us = [.str s, x, y] ∧ Tp H x l ∧ Tp H y m) := by
  cases a with
  | wh r s l m =>
    obtain ⟨p, vs, rfl, e, t⟩ := tpL (show Tp H v (.tuple [.str "when", .int r, .str s, l, m]) from h)
    cases t with | cons t1 t => cases t1; cases t with | cons t2 t => cases t2; cases t with | cons t3 t => cases t3; cases t with | cons t4 t => cases t with | cons t5 t =>
      cases t
      exact ⟨p, _, r, _, rfl, e, .inr ⟨s, l, m, _, _, rfl, rfl, rfl, t4, t5⟩⟩
  | ev e =>
    cases e with
    | row r =>
      obtain ⟨p, v1, v2, rfl, e, t1, t2⟩ := WQ.tp2 (show Tp H v (.tuple [.str "row", .int r]) from h)
      cases t1
      cases t2
      exact ⟨p, _, r, _, rfl, e, .inl ⟨_, rfl, by decide +kernel⟩⟩
    | yes r =>
      obtain ⟨p, v1, v2, rfl, e, t1, t2⟩ := WQ.tp2 (show Tp H v (.tuple [.str "yes", .int r]) from h)
      cases t1
      cases t2
      exact ⟨p, _, r, _, rfl, e, .inl ⟨_, rfl, by decide +kernel⟩⟩
    | no r =>
      obtain ⟨p, v1, v2, rfl, e, t1, t2⟩ := WQ.tp2 (show Tp H v (.tuple [.str "no", .int r]) from h)
      cases t1
      cases t2
      exact ⟨p, _, r, _, rfl, e, .inl ⟨_, rfl, by decide +kernel⟩⟩
    | turn r k =>
      obtain ⟨p, v1, v2, v3, rfl, e, t1, t2, t3⟩ := WQ.tp3 (show Tp H v (.tuple [.str "turn", .int r, .int k]) from h)
      cases t1
      cases t2
      exact ⟨p, _, r, _, rfl, e, .inl ⟨_, rfl, by decide +kernel⟩⟩
    | fault r z =>
      obtain ⟨p, v1, v2, v3, rfl, e, t1, t2, t3⟩ := WQ.tp3 (show Tp H v (.tuple [.str "fault", .int r, .str z]) from h)
      cases t1
      cases t2
      exact ⟨p, _, r, _, rfl, e, .inl ⟨_, rfl, by decide +kernel⟩⟩
section
variable {P : Program} {w : World} {K : PySem.W.Frag} {mg : Str → Option Value} {base : Heap}
/-! ### the watch -/
abbrev watFs (pl : Addr) (p : Nat) : List (Str × V) := [("progress", .int p), ("_place", .ref pl)]
structure WatAt (K : PySem.W.Frag) (H : Hp) (x dx pl : Addr) (us : List V) (as : List Atm) (p : Nat) : Prop where
  ins : H x = some (.ins (He.ga K "Watch") dx (watFs pl p))
  place : H pl = some (.tup us)
  atoms : TpAll H us (as.map Atm.d)
  ok : ∀ a ∈ as, a.ok
  few : as.length ≤ 10
theorem WatAt.same {H H' : Hp} {x dx pl : Addr} {us : List V} {as : List Atm} {p : Nat} (h : WatAt K H x dx pl us as p) (s : Same H H') : WatAt K H' x dx pl us as p := ⟨s _ _ h.ins, s _ _ h.place, h.atoms.tk s.tk, h.ok, h.few⟩
def spWatInit (K : PySem.W.Frag) : Sp := fun vs H Q _ => ∃ (x dx pl : Addr), vs = [.ref x, .ref pl] ∧ H x = some (.ins (He.ga K "Watch") dx []) ∧ ∀ H', (∀ b o, b ≠ x → H b = some o → H' b = some o) → H' x = some (.ins (He.ga K "Watch") dx (watFs pl 0)) → Q .non H'
def spNext (K : PySem.W.Frag) : Sp := fun vs H Q _ => ∃ (x dx pl : Addr) (us : List V) (as : List Atm) (p : Nat), vs = [.ref x] ∧ WatAt K H x dx pl us as p ∧ (as.length ≤ p → Q .non H) ∧ ∀ a u, as[p]? = some a → us[p]? = some u → Q u H
def spWanted (K : PySem.W.Frag) : Sp := fun vs H Q _ => ∃ (x dx pl : Addr) (us : List V) (as : List Atm) (p : Nat) (ev : V) (e : Ev), vs = [.ref x, ev] ∧ WatAt K H x dx pl us as p ∧ Tp H ev e.d ∧ e.ok ∧ ∀ v H', Same H H' → Tp H' v (oD (wanted as p e)) → Q v H'
def stepB (as : List Atm) (p : Nat) (e : Ev) (t : Bool) : Bool := match as[p]? with
  | none => false
  | some a => meets a e t
def spSee (K : PySem.W.Frag) : Sp := fun vs H Q _ => ∃ (x dx pl : Addr) (us : List V) (as : List Atm) (p : Nat) (ev : V) (e : Ev) (t : Bool), vs = [.ref x, ev, .bl t] ∧ WatAt K H x dx pl us as p ∧ Tp H ev e.d ∧ e.ok ∧
  (stepB as p e t = false → ∀ H', Same H H' → Q (.bl false) H') ∧ (stepB as p e t = true → ∀ H', (∀ b o, b ≠ x → H b = some o → H' b = some o) → WatAt K H' x dx pl us as (p + 1) → Q (.bl (decide (p + 1 = as.length))) H')
theorem k_Watch___init (T : Tx K mg) : C8.Mak P w K mg base 1 "Watch" (He.ga K "Watch") (spWatInit K) [] := by
  refine mak_of (N := n_Watch___init) T.d_Watch___init sc_Watch___init (fun _ _ F => F.bindsN fun _ _ _ _ _ _ us hl => match us, hl with | [_, _], _ => rfl) (fun vs H Q E h => ?_) (fun f cdv A outer s H vs Q E hr h => ?_)
  · obtain ⟨x, dx, pl, rfl, _⟩ := h
    rfl
  · obtain ⟨x, dx, pl, rfl, hx, q⟩ := h
    refine ⟨_, (pss_cons (WO.ps_fldK (K := K) (pv 0) pe_int) (pss_one (WO.ps_fldK (K := K) (pv 0) (pv 1)))), ?_⟩
    have cl := T.c_Watch
    have a1 := T.a_Watch_progress
    have a2 := T.a_Watch__place
    walk_at "xx"
    refine k_fldS hx cl a1 (Nat.lt_of_sub_eq_succ rfl) fun H1 c1 e1 => ?_
    walk_at "xx"
    refine k_fldS e1 cl a2 (Nat.lt_of_sub_eq_succ rfl) fun H2 c2 e2 => ?_
    walk_at "xx"
    exact q H2 (fun b o n e => c2.at (c1.at e n) n) e2
theorem k_Watch__next_atom (T : Tx K mg) : C8.Met P w K mg base 1 (He.ga K "Watch") "_next_atom" (spNext K) [] := by
  refine met_of (N := n_Watch__next_atom) T.d_Watch__next_atom T.c_Watch sc_Watch__next_atom (fun _ _ F => F.bindsN fun _ _ _ _ _ _ us hl => match us, hl with | [_], _ => rfl) (fun vs H Q E h => ?_) (fun f cdv A outer s H vs Q E hr h => ?_)
  · obtain ⟨x, dx, pl, us, as, p, rfl, _⟩ := h
    rfl
  · obtain ⟨x, dx, pl, us, as, p, rfl, hw, q1, q2⟩ := h
    refine ⟨_, (pss_one (ps_ret (pe_ifExp (pt_cmpR op_lt (WO.pe_fldK (K := K) (pv 0)) (pe_callB (call_len2 : CallR _ _ (rLn K)) (by rfl) T.z_len (by decide +kernel) (pa_cons (WO.pe_fldK (K := K) (pv 0)) pa_nil)) (nomark _)) (pe_ix (ix_seq : IxR _ (rIx K)) (WO.pe_fldK (K := K) (pv 0)) (WO.pe_fldK (K := K) (pv 0)) (fun _ _ => rfl)) pe_non))), ?_⟩
    have cl := T.c_Watch
    have a1 := T.a_Watch_progress
    have a2 := T.a_Watch__place
    have hx := hw.ins
    have lu := hw.atoms.length
    rw [List.length_map] at lu
    walk_at "xx"
    refine b_lenT (tup_of hw.place) ?_
    walk_at "xx"
    refine iteD (fun e => ?_) (fun e => ?_)
    · walk_at "xx"
      have hp : p < us.length := by omega
      refine o_ixT (tup_of hw.place) (atI_nat (List.getElem?_eq_getElem hp)) ?_
      exact q2 _ _ (List.getElem?_eq_getElem (by omega)) (List.getElem?_eq_getElem hp)
    · walk_at "xx"
      exact q1 (by omega)
theorem k_Watch_wanted (T : Tx K mg) : C8.Met P w K mg base 2 (He.ga K "Watch") "wanted" (spWanted K) [] := by
  refine met_of (N := n_Watch_wanted) T.d_Watch_wanted T.c_Watch sc_Watch_wanted (fun _ _ F => F.bindsN fun _ _ _ _ _ _ us hl => match us, hl with | [_, _], _ => rfl) (fun vs H Q E h => ?_) (fun f cdv A outer s H vs Q E hr h => ?_)
  · obtain ⟨x, dx, pl, us, as, p, ev, e, rfl, _⟩ := h
    rfl
  · obtain ⟨x, dx, pl, us, as, p, ev, e, rfl, hw, te, oe, q⟩ := h
    refine ⟨_, (pss_cons (ps_asg (C8.pe_mt0 (k_Watch__next_atom (K := K) T) hr (by first | decide | omega) (pv 0)) (pg_name (i := 2) sc_Watch_wanted.nd rfl (Or.inl rfl))) (pss_cons (ps_if (PW.pt (pw_or (pt_cmpR op_isN2 (pv 2) pe_non (nomark _)) (pw_or (pt_cmpR (op_ne2 hr.units : OpR _ _ (rNe2 K)) (pe_ix (ix_seq : IxR _ (rIx K)) (pv 2) pe_int (fun _ _ => rfl)) pe_str (nomark _)) (pw_or1 (pt_cmpR (op_ne2 hr.units : OpR _ _ (rNe2 K)) (pv 1) (pe_tup (pa_cons pe_str (pa_cons (pe_ix (ix_seq : IxR _ (rIx K)) (pv 2) pe_int (fun _ _ => rfl)) pa_nil))) (nomark _)))))) (pss_one (ps_ret pe_non)) pss_nil) (pss_one (ps_ret (pe_slice (sl_tupA : SlR _ (rSlA K)) (pv 2) (po_some pe_int) po_none))))), ?_⟩
    have cl := T.c_Watch
    have hx := hw.ins
    walk_at "xx"
    refine ⟨x, dx, pl, us, as, p, rfl, hw, fun hp => ?_, fun a u ga gu => ?_⟩
    · have : wanted as p e = none := by
        unfold wanted
        rw [List.getElem?_eq_none hp]
      rw [this] at q
      walk_at "xx"
      exact q _ _ (Same.refl _) .non
    · have hwa : wanted as p e = wantA a e := by
        unfold wanted
        rw [ga]
      rw [hwa] at q
      obtain ⟨u', gu', tu⟩ := tpAt hw.atoms ga
      rw [gu] at gu'
      cases gu'
      obtain ⟨ap, z, r, vs, rfl, ea, hc⟩ := atm_at tu
      walk_at "xx"
      rcases hc with ⟨e', rfl, hz⟩ | ⟨s', l, m, y1, y2, rfl, rfl, rfl, t1, t2⟩
      · rw [decide_eq_false hz]
        walk_at "xx"
        exact q _ _ (Same.refl _) .non
      · walk_at "xx"
        rename_i rp H1 n1 s1 e1
        refine ne_ev (e := e) (e' := .row r) (te.tk s1.tk) (.tup e1 (by walk_at "tp")) oe True.intro ?_
        walk_at "xx"
        rw [wantA_wh] at q
        by_cases h : e = .row r
        · rw [decide_eq_true h]
          rw [if_pos h] at q
          walk_at "xx"
          refine l_tup (s1 _ _ ea) (fun z => by have h := z.1; simp [HT.sIx] at h) fun p2 H2 n2 s2 e2 => ?_
          refine q _ _ (s1.trans s2) (.tup e2 ?_)
          exact .cons (.str _) (.cons (t1.tk (s1.trans s2).tk) (.cons (t2.tk (s1.trans s2).tk) .nil))
        · rw [decide_eq_false h]
          rw [if_neg h] at q
          walk_at "xx"
          exact q _ _ s1 .non
theorem wantA_ev {e' e : Ev} : wantA (.ev e') e = none := rfl
theorem k_Watch_see (T : Tx K mg) : C8.Met P w K mg base 3 (He.ga K "Watch") "see" (spSee K) [] := by
  refine met_of (N := n_Watch_see) T.d_Watch_see T.c_Watch sc_Watch_see (fun _ _ F => F.bindsN fun _ _ _ _ _ _ us hl => match us, hl with | [_, _, _], _ => rfl) (fun vs H Q E h => ?_) (fun f cdv A outer s H vs Q E hr h => ?_)
  · obtain ⟨x, dx, pl, us, as, p, ev, e, t, rfl, _⟩ := h
    rfl
  · obtain ⟨x, dx, pl, us, as, p, ev, e, t, rfl, hw, te, oe, q1, q2⟩ := h
    refine ⟨_, (pss_cons (ps_asg (C8.pe_mt0 (k_Watch__next_atom (K := K) T) hr (by first | decide | omega) (pv 0)) (pg_name (i := 3) sc_Watch_see.nd rfl (Or.inl rfl))) (pss_cons (ps_if (pt_cmpR op_isN2 (pv 3) pe_non (nomark _)) (pss_one (ps_ret pe_bl)) pss_nil) (C8.pss_cut (ps_if (pt_cmpR (op_eq2 hr.units : OpR _ _ (rEq2 K)) (pe_ix (ix_seq : IxR _ (rIx K)) (pv 3) pe_int (fun _ _ => rfl)) pe_str (nomark _)) (pss_one (ps_asg (pe_and (pe_cmpR op_ntN2 (C8.pe_mt (k_Watch_wanted (K := K) T) hr (by first | decide | omega) (pv 0) (pa_cons (pv 1) pa_nil)) pe_non (nomark _)) (pe_one (pe_callTy WO.call_bool2 (by rfl) T.z_bool (by decide +kernel) (pa_cons (pv 2) pa_nil)))) (pg_name (i := 4) sc_Watch_see.nd rfl (Or.inl rfl)))) (pss_one (ps_asg (pe_cmpR (op_eq2 hr.units : OpR _ _ (rEq2 K)) (pv 1) (pv 3) (nomark _)) (pg_name (i := 4) sc_Watch_see.nd rfl (Or.inl rfl))))) (pss_cons (ps_if (pt_not (pt_tr (pv 4) : PT _ _ (tTr K _))) (pss_one (ps_ret pe_bl)) pss_nil) (pss_cons (WO.ps_fldaugK (K := K) (pv 0) pe_int in_add) (pss_one (ps_ret (pe_cmpR (op_eq2 hr.units : OpR _ _ (rEq2 K)) (WO.pe_fldK (K := K) (pv 0)) (pe_callB (call_len2 : CallR _ _ (rLn K)) (by rfl) T.z_len (by decide +kernel) (pa_cons (WO.pe_fldK (K := K) (pv 0)) pa_nil)) (nomark _))))))))), ?_⟩
    have cl := T.c_Watch
    have a1 := T.a_Watch_progress
    have a2 := T.a_Watch__place
    have hx := hw.ins
    have lu := hw.atoms.length
    rw [List.length_map] at lu
    walk_at "xx"
    refine ⟨x, dx, pl, us, as, p, rfl, hw, fun hp => ?_, fun a u ga gu => ?_⟩
    · have : stepB as p e t = false := by
        unfold stepB
        rw [List.getElem?_eq_none hp]
      walk_at "xx"
      exact q1 this _ (Same.refl _)
    · have hst : stepB as p e t = meets a e t := by
        unfold stepB
        rw [ga]
      have hwa : wanted as p e = wantA a e := by
        unfold wanted
        rw [ga]
      rw [hst] at q1 q2
      obtain ⟨u', gu', tu⟩ := tpAt hw.atoms ga
      rw [gu] at gu'
      cases gu'
      have oa := hw.ok a (List.mem_of_getElem? ga)
      obtain ⟨ap, z, r, vs, rfl, ea, hc⟩ := atm_at tu
      walk_at "xx"
      refine s_cut (fun σ' H' => σ' = [some (.ref x), some (ev), some (.bl t), some (.ref ap), some (.bl (meets a e t))] ∧ Same H H') ?_ (fun σ' H' p' => ?_)
      · rcases hc with ⟨e', rfl, hz⟩ | ⟨s', l, m, y1, y2, rfl, rfl, rfl, t1, t2⟩
        · walk_at "xx"
          rw [decide_eq_false hz]
          walk_at "xx"
          refine eq_ev (e := e) (e' := e') te tu oe oa ?_
          walk_at "xx"
          exact ⟨rfl, Same.refl _⟩
        · walk_at "xx"
          refine ⟨x, dx, pl, us, as, p, ev, e, rfl, hw, te, oe, fun v H1 s1 tv => ?_⟩
          rw [hwa] at tv
          rw [wantA_wh] at tv
          rw [meets_wh]
          by_cases h : e = .row r
          · rw [decide_eq_true h, Bool.true_and]
            rw [if_pos h] at tv
            obtain ⟨b, vs, rfl, _, _⟩ := tpL (show Tp H1 v (.tuple [.str s', l, m]) from tv)
            walk_at "xx"
            exact ⟨rfl, s1⟩
          · rw [decide_eq_false h, Bool.false_and]
            rw [if_neg h] at tv
            cases (show v = .non by cases (show Tp H1 v .none from tv); rfl)
            walk_at "xx"
            exact ⟨rfl, s1⟩
      · obtain ⟨rfl, s1⟩ := p'
        cases hm : meets a e t with
        | false =>
          walk_at "xx"
          exact q1 hm _ s1
        | true =>
          walk_at "xx"
          have hx1 := s1 _ _ hx
          refine s_fldaug rfl hx1 cl a1 rfl (Nat.lt_of_sub_eq_succ rfl) fun H2 c2 e2 => ?_
          have e2 : H2 x = some (.ins (He.ga K "Watch") dx (watFs pl (p + 1))) := e2
          have hw2 : WatAt K H2 x dx pl us as (p + 1) := ⟨e2, c2.at (s1 _ _ hw.place) (ne_of (s1 _ _ hw.place) hx1 (by intro z; cases z)), hw.atoms.tk (s1.tk.trans fun a xs h => c2.at h (ne_of h hx1 (by intro z; cases z))), hw.ok, hw.few⟩
          walk_at "xx"
          refine b_lenT (tup_of hw2.place) ?_
          refine o_eqS rfl ?_
          rw [dI, lu]
          have : decide (((p + 1 : Nat) : Int) = (as.length : Int)) = decide (p + 1 = as.length) := by
            rw [decide_eq_decide]
            omega
          rw [this]
          exact q2 hm H2 (fun b o n e => c2.at (s1 _ _ e) n) hw2
end
end K10
namespace K10
open PySem PySem.Spec PyProof.Rows L2 Wy WN WQ WS WC WE WO

-- WIDE
section
variable {P : Program} {w : World} {K : PySem.W.Frag} {mg : Str → Option Value} {base : Heap}
theorem HandAt.keepH {H H' : Hp} {h d : Addr} (c : Chg h H H') : Keep h H H' := c.keep
/-- a hand's draw as a text of a list -/
theorem ix_str {H : Hp} {Q : VK} {a : Addr} {zs : List Str} {i : Int} (e : H a = some (.lst (zs.map V.str))) (h0 : 0 ≤ i) (h1 : i < zs.length) (h : ∀ z, z ∈ zs → Q (.str z) H) : rIx K (.ref a) (.int i) H Q := by
  have g := List.getElem?_eq_getElem (l := zs) (i := i.toNat) (by omega)
  exact o_ixL (lst_of e) (atI_of (j := i.toNat) (by omega) (v := .str zs[i.toNat]) (by rw [List.getElem?_map, g]; rfl)) (h _ (List.getElem_mem _))
def spEv : Sp := fun vs H Q _ => ∃ (h d : Addr) (b : Int), vs = [.ref h, .int b] ∧ HandAt H h d ∧ ∀ v H' e, Keep h H H' → HandAt H' h d → Tp H' v (Ev.d e) → e.ok → Q v H'
theorem k_law_event (T : Tx K mg) : C8.Cal P w K mg base 2 "_law_event" spEv [] := by
  refine cal_of (N := n_law_event) T.d_law_event sc_law_event (fun _ _ F => F.bindsN fun _ _ _ _ _ _ us hl => match us, hl with | [_, _], _ => rfl) (fun vs H Q E h => ?_) (fun f cdv A outer s H vs Q E hr h => ?_)
  · obtain ⟨h, d, b, rfl, _⟩ := h
    rfl
  · obtain ⟨h, d, b, rfl, hh, q⟩ := h
    refine ⟨_, (pss_cons (ps_asg (pe_op op_add3 (pv 1) (C8.pe_c (k_law_take T) hr (by first | decide | omega) (by rfl) (pa_cons (pv 0) (pa_cons pe_int pa_nil)))) (pg_name (i := 2) sc_law_event.nd rfl (Or.inl rfl))) (pss_cons (ps_asg (C8.pe_c (k_law_take T) hr (by first | decide | omega) (by rfl) (pa_cons (pv 0) (pa_cons pe_int pa_nil))) (pg_name (i := 3) sc_law_event.nd rfl (Or.inl rfl))) (pss_cons (ps_if (pt_cmpR op_lt (pv 3) pe_int (nomark _)) (pss_one (ps_ret (pe_tup (pa_cons pe_str (pa_cons (pv 2) pa_nil))))) pss_nil) (pss_cons (ps_if (pt_cmpR (op_eq2 hr.units : OpR _ _ (rEq2 K)) (pv 3) pe_int (nomark _)) (pss_one (ps_ret (pe_tup (pa_cons pe_str (pa_cons (pv 2) pa_nil))))) pss_nil) (pss_cons (ps_if (pt_cmpR (op_eq2 hr.units : OpR _ _ (rEq2 K)) (pv 3) pe_int (nomark _)) (pss_one (ps_ret (pe_tup (pa_cons pe_str (pa_cons (pv 2) pa_nil))))) pss_nil) (pss_cons (ps_if (pt_cmpR (op_eq2 hr.units : OpR _ _ (rEq2 K)) (pv 3) pe_int (nomark _)) (pss_one (ps_ret (pe_tup (pa_cons pe_str (pa_cons (pv 2) (pa_cons (pe_op op_add3 pe_int (pe_op op_mul2 (C8.pe_c (k_law_take T) hr (by first | decide | omega) (by rfl) (pa_cons (pv 0) (pa_cons pe_int pa_nil))) (pe_op op_add3 pe_int (C8.pe_c (k_law_take T) hr (by first | decide | omega) (by rfl) (pa_cons (pv 0) (pa_cons pe_int pa_nil)))))) pa_nil)))))) pss_nil) (pss_cons (ps_if (pt_cmpR (op_eq2 hr.units : OpR _ _ (rEq2 K)) (pv 3) pe_int (nomark _)) (pss_one (ps_ret (pe_tup (pa_cons pe_str (pa_cons (pv 2) (pa_cons (pe_ix (ix_seq : IxR _ (rIx K)) (pe_lst (pa_cons pe_str (pa_cons pe_str (pa_cons pe_str (pa_cons pe_str (pa_cons pe_str pa_nil)))))) (C8.pe_c (k_law_take T) hr (by first | decide | omega) (by rfl) (pa_cons (pv 0) (pa_cons pe_int pa_nil))) (fun _ _ => rfl)) pa_nil)))))) pss_nil) (pss_one (ps_ret (pe_tup (pa_cons pe_str (pa_cons (pv 2) pa_nil)))))))))))), ?_⟩
    walk_at "xx"
    refine ⟨h, d, 3, rfl, hh, by decide, fun r H1 r0 r1 c1 hh1 => ?_⟩
    walk_at "xx"
    refine ⟨h, d, 8, rfl, hh1, by decide, fun k H2 k0 k1 c2 hh2 => ?_⟩
    have K2 : Keep h H H2 := c1.keep.trans c2.keep
    walk_at "xx"
    refine iteD (fun e => ?_) (fun e => ?_)
    · walk_at "xx"
      rename_i p H3 n3 s3 e3
      exact q _ _ (.row _) (K2.trans s3.keep) (hh2.same s3) (.tup e3 (by walk_at "tp")) True.intro
    walk_at "xx"
    refine iteI (fun e => ?_) (fun e => ?_)
    · walk_at "xx"
      rename_i p H3 n3 s3 e3
      exact q _ _ (.yes _) (K2.trans s3.keep) (hh2.same s3) (.tup e3 (by walk_at "tp")) True.intro
    walk_at "xx"
    refine iteI (fun e => ?_) (fun e => ?_)
    · walk_at "xx"
      rename_i p H3 n3 s3 e3
      exact q _ _ (.no _) (K2.trans s3.keep) (hh2.same s3) (.tup e3 (by walk_at "tp")) True.intro
    walk_at "xx"
    refine iteI (fun e => ?_) (fun e => ?_)
    · walk_at "xx"
      refine ⟨h, d, 2, rfl, hh2, by decide, fun k1 H3 k10 k11 c3 hh3 => ?_⟩
      walk_at "xx"
      refine ⟨h, d, 7, rfl, hh3, by decide, fun k2 H4 k20 k21 c4 hh4 => ?_⟩
      walk_at "xx"
      rename_i p H5 n5 s5 e5
      exact q _ _ (.turn _ _) (K2.trans (c3.keep.trans (c4.keep.trans s5.keep))) (hh4.same s5) (.tup e5 (by walk_at "tp")) True.intro
    walk_at "xx"
    refine iteI (fun e => ?_) (fun e => ?_)
    · walk_at "xx"
      rename_i lp H3 n3 s3 e3
      refine ⟨h, d, 5, rfl, hh2.same s3, by decide, fun k1 H4 k10 k11 c4 hh4 => ?_⟩
      have hlh : lp ≠ h := by
        intro e'
        obtain ⟨_, _, e0, _, _⟩ := hh2
        rw [← e', n3] at e0
        cases e0
      refine ix_str (zs := FK) (c4.at e3 hlh) k10 (by exact k11) fun z hz => ?_
      walk_at "xx"
      rename_i p H5 n5 s5 e5
      exact q _ _ (.fault _ z) (K2.trans (s3.keep.trans (c4.keep.trans s5.keep))) (hh4.same s5) (.tup e5 (by walk_at "tp")) hz
    · walk_at "xx"
      rename_i p H3 n3 s3 e3
      exact q _ _ (.yes _) (K2.trans s3.keep) (hh2.same s3) (.tup e3 (by walk_at "tp")) True.intro
def spAtm : Sp := fun vs H Q _ => ∃ (h d : Addr) (b : Int), vs = [.ref h, .int b] ∧ HandAt H h d ∧ ∀ v H' a, Keep h H H' → HandAt H' h d → Tp H' v (Atm.d a) → a.ok → Q v H'
theorem ix_data {H : Hp} {Q : VK} {a : Addr} {us : List V} {ds : List PyData} {i : Int} (e : H a = some (.lst us)) (t : TpAll H us ds) (h0 : 0 ≤ i) (h1 : i < ds.length) (h : ∀ v d, d ∈ ds → Tp H v d → Q v H) : rIx K (.ref a) (.int i) H Q := by
  have g := List.getElem?_eq_getElem (l := ds) (i := i.toNat) (by omega)
  obtain ⟨v, gv, tv⟩ := t.get g
  exact o_ixL (lst_of e) (atI_of (j := i.toNat) (by omega) gv) (h _ _ (List.getElem_mem _) tv)
theorem k_law_atom (T : Tx K mg) : C8.Cal P w K mg base 3 "_law_atom" spAtm [] := by
  refine cal_of (N := n_law_atom) T.d_law_atom sc_law_atom (fun _ _ F => F.bindsN fun _ _ _ _ _ _ us hl => match us, hl with | [_, _], _ => rfl) (fun vs H Q E h => ?_) (fun f cdv A outer s H vs Q E hr h => ?_)
  · obtain ⟨h, d, b, rfl, _⟩ := h
    rfl
  · obtain ⟨h, d, b, rfl, hh, q⟩ := h
    refine ⟨_, (pss_cons (ps_if (pt_cmpR op_gt (C8.pe_c (k_law_take T) hr (by first | decide | omega) (by rfl) (pa_cons (pv 0) (pa_cons pe_int pa_nil))) pe_int (nomark _)) (pss_one (ps_ret (C8.pe_c (k_law_event T) hr (by first | decide | omega) (by rfl) (pa_cons (pv 0) (pa_cons (pv 1) pa_nil))))) pss_nil) (pss_cons (ps_asg (pe_ix (ix_seq : IxR _ (rIx K)) (pe_lst (pa_cons pe_str (pa_cons pe_str (pa_cons pe_str (pa_cons pe_str (pa_cons pe_str (pa_cons pe_str pa_nil))))))) (C8.pe_c (k_law_take T) hr (by first | decide | omega) (by rfl) (pa_cons (pv 0) (pa_cons pe_int pa_nil))) (fun _ _ => rfl)) (pg_name (i := 2) sc_law_atom.nd rfl (Or.inl rfl))) (pss_cons (ps_asg (pe_ix (ix_seq : IxR _ (rIx K)) (pe_lst (pa_cons (pe_tup (pa_cons pe_str (pa_cons pe_str (pa_cons pe_int pa_nil)))) (pa_cons (pe_tup (pa_cons pe_str (pa_cons pe_str (pa_cons (pe_tup (pa_cons pe_str (pa_cons pe_int pa_nil))) (pa_cons pe_int pa_nil))))) (pa_cons (pe_tup (pa_cons pe_str (pa_cons pe_int pa_nil))) pa_nil)))) (C8.pe_c (k_law_take T) hr (by first | decide | omega) (by rfl) (pa_cons (pv 0) (pa_cons pe_int pa_nil))) (fun _ _ => rfl)) (pg_name (i := 3) sc_law_atom.nd rfl (Or.inl rfl))) (pss_cons (ps_asg (pe_ix (ix_seq : IxR _ (rIx K)) (pe_lst (pa_cons (pe_tup (pa_cons pe_str (pa_cons pe_str (pa_cons (pe_un un_neg pe_int) pa_nil)))) (pa_cons (pe_tup (pa_cons pe_str (pa_cons pe_str (pa_cons (pe_tup (pa_cons pe_str (pa_cons pe_str (pa_cons pe_int pa_nil)))) (pa_cons pe_int pa_nil))))) (pa_cons (pe_tup (pa_cons pe_str (pa_cons pe_int pa_nil))) pa_nil)))) (C8.pe_c (k_law_take T) hr (by first | decide | omega) (by rfl) (pa_cons (pv 0) (pa_cons pe_int pa_nil))) (fun _ _ => rfl)) (pg_name (i := 4) sc_law_atom.nd rfl (Or.inl rfl))) (pss_one (ps_ret (pe_tup (pa_cons pe_str (pa_cons (pe_op op_add3 (pv 1) (C8.pe_c (k_law_take T) hr (by first | decide | omega) (by rfl) (pa_cons (pv 0) (pa_cons pe_int pa_nil)))) (pa_cons (pv 2) (pa_cons (pv 3) (pa_cons (pv 4) pa_nil)))))))))))), ?_⟩
    have ne : ∀ {H1 : Hp} {b}, HandAt H1 h d → H1 b = none → b ≠ h := fun {H1 b} x n => by
      obtain ⟨_, _, e, _, _⟩ := x
      exact (ne_of_none e n).symm
    walk_at "xx"
    refine ⟨h, d, 3, rfl, hh, by decide, fun r H1 r0 r1 c1 hh1 => ?_⟩
    walk_at "xx"
    refine iteD (fun e => ?_) (fun e => ?_)
    · walk_at "xx"
      exact ⟨h, d, b, rfl, hh1, fun v H2 e k2 hh2 t2 o2 => q v H2 (.ev e) (c1.keep.trans k2) hh2 t2 o2⟩
    walk_at "xx"
    rename_i lp H2 n2 s2 e2
    refine ⟨h, d, 6, rfl, hh1.same s2, by decide, fun k1 H3 k10 k11 c3 hh3 => ?_⟩
    refine ix_str (zs := SGN) (c3.at e2 (ne hh1 n2)) k10 (by exact k11) fun sg hsg => ?_
    have K3 : Keep h H H3 := c1.keep.trans (s2.keep.trans c3.keep)
    clear s2 c3 e2 n2
    walk_at "xx"
    rename_i p1 H4 n4 s4 e4 p2 H5 n5 s5 e5 p3 H6 n6 s6 e6 p4 H7 n7 s7 e7 lp2 H8 n8 s8 e8
    have tL : TpAll H8 [.ref p1, .ref p3, .ref p4] LF := by
      refine .cons (.tup (by walk_at "hp") (by walk_at "tp")) (.cons (.tup (by walk_at "hp") ?_) (.cons (.tup (by walk_at "hp") (by walk_at "tp")) .nil))
      exact .cons (.str _) (.cons (.str _) (.cons (.tup (by walk_at "hp") (by walk_at "tp")) (.cons (.int _) .nil)))
    have S8 : Same H3 H8 := s4.trans (s5.trans (s6.trans (s7.trans s8)))
    clear s4 s5 s6 s7 s8 e4 e5 e6 e7
    have hh8 := hh3.same S8
    refine ⟨h, d, 3, rfl, hh8, by decide, fun k2 H9 k20 k21 c9 hh9 => ?_⟩
    have hl2 : lp2 ≠ h := by
      intro e
      obtain ⟨_, _, e', _, _⟩ := hh8
      rw [← e, e8] at e'
      cases e'
    have k9 : TK H8 H9 := hh8.keep_tk c9.keep
    refine ix_data (c9.at e8 hl2) (tL.tk k9) k20 (by exact k21) fun lv ld hld tld => ?_
    have K9 : Keep h H H9 := K3.trans (S8.keep.trans c9.keep)
    clear S8 c9 e8 n8 tL n4 n5 n6 n7
    walk_at "xx"
    rename_i p1 H4 n4 s4 e4 p2 H5 n5 s5 e5 p3 H6 n6 s6 e6 p4 H7 n7 s7 e7 lp2 H10 n10 s10 e10
    have tR : TpAll H10 [.ref p1, .ref p3, .ref p4] RT := by
      refine .cons (.tup (by walk_at "hp") (by walk_at "tp")) (.cons (.tup (by walk_at "hp") ?_) (.cons (.tup (by walk_at "hp") (by walk_at "tp")) .nil))
      exact .cons (.str _) (.cons (.str _) (.cons (.tup (by walk_at "hp") (by walk_at "tp")) (.cons (.int _) .nil)))
    have S10 : Same H9 H10 := s4.trans (s5.trans (s6.trans (s7.trans s10)))
    clear s4 s5 s6 s7 s10 e4 e5 e6 e7
    have hh10 := hh9.same S10
    refine ⟨h, d, 3, rfl, hh10, by decide, fun k3 H11 k30 k31 c11 hh11 => ?_⟩
    have hl2 : lp2 ≠ h := by
      intro e
      obtain ⟨_, _, e', _, _⟩ := hh10
      rw [← e, e10] at e'
      cases e'
    have k11 : TK H10 H11 := hh10.keep_tk c11.keep
    refine ix_data (c11.at e10 hl2) (tR.tk k11) k30 (by exact k31) fun rv rd hrd trd => ?_
    have K11 : Keep h H H11 := K9.trans (S10.keep.trans c11.keep)
    have tld := tld.tk (S10.tk.trans k11)
    clear S10 c11 e10 n10 tR n4 n5 n6 n7
    walk_at "xx"
    refine ⟨h, d, 3, rfl, hh11, by decide, fun k4 H12 k40 k41 c12 hh12 => ?_⟩
    have k12 : TK H11 H12 := hh11.keep_tk c12.keep
    walk_at "xx"
    rename_i p H13 n13 s13 e13
    refine q _ _ (.wh (b + k4) sg ld rd) (K11.trans (c12.keep.trans s13.keep)) (hh12.same s13) (.tup e13 ?_) ⟨hsg, hld, hrd⟩
    exact .cons (.str _) (.cons (.int _) (.cons (.str _) (.cons (tld.tk (k12.trans s13.tk)) (.cons (trd.tk (k12.trans s13.tk)) .nil))))
def spMeets : Sp := fun vs H Q _ => ∃ (va ve : V) (a : Atm) (e : Ev) (t : Bool), vs = [va, ve, .bl t] ∧ Tp H va a.d ∧ Tp H ve e.d ∧ a.ok ∧ e.ok ∧ ∀ H', Same H H' → Q (.bl (meets a e t)) H'
theorem k_law_meets (T : Tx K mg) : C8.Cal P w K mg base 1 "_law_meets" spMeets [] := by
  refine cal_of (N := n_law_meets) T.d_law_meets sc_law_meets (fun _ _ F => F.bindsN fun _ _ _ _ _ _ us hl => match us, hl with | [_, _, _], _ => rfl) (fun vs H Q E h => ?_) (fun f cdv A outer s H vs Q E hr h => ?_)
  · obtain ⟨va, ve, a, e, t, rfl, _⟩ := h
    rfl
  · obtain ⟨va, ve, a, e, t, rfl, ta, te, oa, oe, q⟩ := h
    refine ⟨_, (pss_cons (ps_if (pt_cmpR (op_eq2 hr.units : OpR _ _ (rEq2 K)) (pe_ix (ix_seq : IxR _ (rIx K)) (pv 0) pe_int (fun _ _ => rfl)) pe_str (nomark _)) (pss_one (ps_ret (pe_and (pe_cmpR (op_eq2 hr.units : OpR _ _ (rEq2 K)) (pv 1) (pe_tup (pa_cons pe_str (pa_cons (pe_ix (ix_seq : IxR _ (rIx K)) (pv 0) pe_int (fun _ _ => rfl)) pa_nil))) (nomark _)) (pe_one (pv 2))))) pss_nil) (pss_one (ps_ret (pe_cmpR (op_eq2 hr.units : OpR _ _ (rEq2 K)) (pv 1) (pv 0) (nomark _))))), ?_⟩
    obtain ⟨ap, z, r, vs, rfl, ea, hc⟩ := atm_at ta
    walk_at "xx"
    rcases hc with ⟨e', rfl, hz⟩ | ⟨s', l, m, y1, y2, rfl, rfl, rfl, t1, t2⟩
    · rw [decide_eq_false hz]
      walk_at "xx"
      refine eq_ev (e := e) (e' := e') te ta oe oa ?_
      exact q _ (Same.refl _)
    · walk_at "xx"
      rename_i rp H1 n1 s1 e1
      refine eq_ev (e := e) (e' := .row r) (te.tk s1.tk) (.tup e1 (by walk_at "tp")) oe True.intro ?_
      rw [meets_wh] at q
      by_cases h : e = .row r
      · rw [decide_eq_true h] at q ⊢
        walk_at "xx"
        exact q _ s1
      · rw [decide_eq_false h] at q ⊢
        walk_at "xx"
        exact q _ s1
def spLWant : Sp := fun vs H Q _ => ∃ (pl : Addr) (us : List V) (as : List Atm) (p : Nat) (ve : V) (e : Ev), vs = [.ref pl, .int p, ve] ∧ H pl = some (.tup us) ∧ TpAll H us (as.map Atm.d) ∧ Tp H ve e.d ∧ e.ok ∧ ∀ v H', Same H H' → Tp H' v (oD (wanted as p e)) → Q v H'
theorem k_law_wanted (T : Tx K mg) : C8.Cal P w K mg base 1 "_law_wanted" spLWant [] := by
  refine cal_of (N := n_law_wanted) T.d_law_wanted sc_law_wanted (fun _ _ F => F.bindsN fun _ _ _ _ _ _ us hl => match us, hl with | [_, _, _], _ => rfl) (fun vs H Q E h => ?_) (fun f cdv A outer s H vs Q E hr h => ?_)
  · obtain ⟨pl, us, as, p, ve, e, rfl, _⟩ := h
    rfl
  · obtain ⟨pl, us, as, p, ve, e, rfl, hp, tp, te, oe, q⟩ := h
    refine ⟨_, (pss_cons (ps_if (PW.pt (pw_and (pt_cmpR op_lt (pv 1) (pe_callB (call_len2 : CallR _ _ (rLn K)) (by rfl) T.z_len (by decide +kernel) (pa_cons (pv 0) pa_nil)) (nomark _)) (pw_and (pt_cmpR (op_eq2 hr.units : OpR _ _ (rEq2 K)) (pe_ix (ix_seq : IxR _ (rIx K)) (pe_ix (ix_seq : IxR _ (rIx K)) (pv 0) (pv 1) (fun _ _ => rfl)) pe_int (fun _ _ => rfl)) pe_str (nomark _)) (pw_and1 (pt_cmpR (op_eq2 hr.units : OpR _ _ (rEq2 K)) (pv 2) (pe_tup (pa_cons pe_str (pa_cons (pe_ix (ix_seq : IxR _ (rIx K)) (pe_ix (ix_seq : IxR _ (rIx K)) (pv 0) (pv 1) (fun _ _ => rfl)) pe_int (fun _ _ => rfl)) pa_nil))) (nomark _)))))) (pss_one (ps_ret (pe_slice (sl_tupA : SlR _ (rSlA K)) (pe_ix (ix_seq : IxR _ (rIx K)) (pv 0) (pv 1) (fun _ _ => rfl)) (po_some pe_int) po_none))) pss_nil) (pss_one (ps_ret pe_non))), ?_⟩
    have lu := tp.length
    rw [List.length_map] at lu
    walk_at "xx"
    refine b_lenT (tup_of hp) ?_
    walk_at "xx"
    refine iteD (fun e1 => ?_) (fun e1 => ?_)
    · have hl : p < as.length := by omega
      have ga : as[p]? = some as[p] := List.getElem?_eq_getElem hl
      have hwa : wanted as p e = wantA as[p] e := by
        unfold wanted
        rw [ga]
      rw [hwa] at q
      obtain ⟨u, gu, tu⟩ := tpAt tp ga
      generalize as[p] = a at tu q
      obtain ⟨ap, z, r, vs, rfl, ea, hc⟩ := atm_at tu
      walk_at "xx"
      refine o_ixT (tup_of hp) (atI_nat gu) ?_
      walk_at "xx"
      rcases hc with ⟨e', rfl, hz⟩ | ⟨s', l, m, y1, y2, rfl, rfl, rfl, t1, t2⟩
      · rw [decide_eq_false hz]
        walk_at "xx"
        exact q _ _ (Same.refl _) .non
      · walk_at "xx"
        refine o_ixT (tup_of hp) (atI_nat gu) ?_
        walk_at "xx"
        rename_i rp H1 n1 s1 e1'
        refine eq_ev (e := e) (e' := .row r) (te.tk s1.tk) (.tup e1' (by walk_at "tp")) oe True.intro ?_
        rw [wantA_wh] at q
        by_cases h : e = .row r
        · rw [decide_eq_true h]
          rw [if_pos h] at q
          walk_at "xx"
          refine o_ixT (tup_of (s1 _ _ hp)) (atI_nat gu) ?_
          walk_at "xx"
          refine l_tup (s1 _ _ ea) (fun z => by have h := z.1; simp [HT.sIx] at h) fun p2 H2 n2 s2 e2 => ?_
          refine q _ _ (s1.trans s2) (.tup e2 ?_)
          exact .cons (.str _) (.cons (t1.tk (s1.trans s2).tk) (.cons (t2.tk (s1.trans s2).tk) .nil))
        · rw [decide_eq_false h]
          rw [if_neg h] at q
          walk_at "xx"
          exact q _ _ s1 .non
    · have : wanted as p e = none := by
        unfold wanted
        rw [List.getElem?_eq_none (by omega)]
      rw [this] at q
      walk_at "xx"
      exact q _ _ (Same.refl _) .non
end
end K10
namespace K10
open PySem PySem.Spec PyProof.Rows L2 Wy WN WQ WS WC WE WO

-- WIDE
/-! ### all choices -/
def lensN (mt : Nat → Nat → Bool) (atoms : Nat) : Nat → List Nat
  | 0 => [0]
  | k + 1 => lensN mt atoms k ++ ((lensN mt atoms k).filter fun a => decide (a < atoms) && mt a k).map (· + 1)
def gr (mt : Nat → Nat → Bool) (len : Nat) : Nat → Nat
  | 0 => 0
  | k + 1 => if decide (gr mt len k < len) && mt (gr mt len k) k then gr mt len k + 1 else gr mt len k
theorem gr_le (mt : Nat → Nat → Bool) (len : Nat) : ∀ k, gr mt len k ≤ len
  | 0 => Nat.zero_le _
  | k + 1 => by
    have := gr_le mt len k
    unfold gr
    split
    · rename_i h
      rw [Bool.and_eq_true, decide_eq_true_eq] at h
      omega
    · exact this
theorem gr_step (mt : Nat → Nat → Bool) (len k : Nat) : gr mt len k ≤ gr mt len (k + 1) ∧ gr mt len (k + 1) ≤ gr mt len k + 1 := by
  have e : gr mt len (k + 1) = if (decide (gr mt len k < len) && mt (gr mt len k) k) = true then gr mt len k + 1 else gr mt len k := rfl
  generalize gr mt len (k + 1) = x at e
  generalize gr mt len k = y at e
  split at e <;> omega
theorem mem_lens {mt : Nat → Nat → Bool} {len atoms : Nat} (h : atoms ≤ len) : ∀ k a, a ∈ lensN mt atoms k ↔ a ≤ atoms ∧ a ≤ gr mt len k
  | 0, a => by
    simp only [lensN, gr, List.mem_singleton]
    omega
  | k + 1, a => by
    have ih := mem_lens (mt := mt) h k
    have gs := gr_step mt len k
    simp only [lensN, List.mem_append, List.mem_map, List.mem_filter, Bool.and_eq_true, decide_eq_true_eq]
    constructor
    · rintro (hm | ⟨b, ⟨hb, hlt, hmt⟩, rfl⟩)
      · have := (ih a).mp hm
        omega
      · have hb2 := (ih b).mp hb
        refine ⟨by omega, ?_⟩
        by_cases e : b = gr mt len k
        · have : gr mt len (k + 1) = gr mt len k + 1 := by
            show (if _ then _ else _) = _
            rw [if_pos (by rw [← e, hmt, decide_eq_true (show b < len by omega)]; rfl)]
          omega
        · omega
    · rintro ⟨h1, h2⟩
      by_cases e : a ≤ gr mt len k
      · exact .inl ((ih a).mpr ⟨h1, e⟩)
      · have e2 : gr mt len (k + 1) = gr mt len k + 1 := by omega
        have hc : (decide (gr mt len k < len) && mt (gr mt len k) k) = true := by
          cases q : (decide (gr mt len k < len) && mt (gr mt len k) k) with
          | true => rfl
          | false =>
            have e3 : gr mt len (k + 1) = gr mt len k := by
              show (if _ then _ else _) = _
              rw [q]
              rfl
            exact absurd (e3.symm.trans e2) (by omega)
        rw [Bool.and_eq_true, decide_eq_true_eq] at hc
        exact .inr ⟨gr mt len k, ⟨(ih _).mpr ⟨by omega, Nat.le_refl _⟩, by omega, hc.2⟩, by show gr mt len k + 1 = a; omega⟩
theorem lens_len (mt : Nat → Nat → Bool) (atoms : Nat) : ∀ k, (lensN mt atoms k).length ≤ 2 ^ k
  | 0 => Nat.le_refl _
  | k + 1 => by
    have := lens_len mt atoms k
    have h2 := List.length_filter_le (fun a => decide (a < atoms) && mt a k) (lensN mt atoms k)
    simp only [lensN, List.length_append, List.length_map]
    rw [Nat.pow_succ]
    omega
/-- choices in the heap: lists of so many numbers -/
structure Ch (H : Hp) (rs : List Addr) (L : List Nat) : Prop where
  len : rs.length = L.length
  row : ∀ (i : Nat) (r : Addr) (l : Nat), rs[i]? = some r → L[i]? = some l → ∃ xs, H r = some (.lst xs) ∧ xs.length = l
theorem Ch.same {H H' : Hp} {rs : List Addr} {L : List Nat} (c : Ch H rs L) (s : Same H H') : Ch H' rs L := ⟨c.len, fun i r l g1 g2 => by
  obtain ⟨xs, e, h⟩ := c.row i r l g1 g2
  exact ⟨xs, s _ _ e, h⟩⟩
theorem Ch.chg {H H' : Hp} {p : Addr} {rs : List Addr} {L : List Nat} (c : Ch H rs L) (s : Chg p H H') (n : p ∉ rs) : Ch H' rs L := ⟨c.len, fun i r l g1 g2 => by
  obtain ⟨xs, e, h⟩ := c.row i r l g1 g2
  exact ⟨xs, s.at e (fun q => n (q ▸ List.mem_of_getElem? g1)), h⟩⟩
theorem Ch.snoc {H : Hp} {rs : List Addr} {L : List Nat} {r : Addr} {xs : List V} (c : Ch H rs L) (e : H r = some (.lst xs)) : Ch H (rs ++ [r]) (L ++ [xs.length]) := ⟨by rw [List.length_append, List.length_append, c.len]; rfl, fun i r' l g1 g2 => by
  by_cases hi : i < rs.length
  · rw [List.getElem?_append_left hi] at g1
    rw [List.getElem?_append_left (by rw [← c.len]; exact hi)] at g2
    exact c.row i r' l g1 g2
  · have h := (List.getElem?_eq_some_iff.mp g1).1
    rw [List.length_append, List.length_singleton] at h
    have : i = rs.length := by omega
    subst this
    rw [List.getElem?_append_right (Nat.le_refl _), Nat.sub_self] at g1
    rw [c.len, List.getElem?_append_right (Nat.le_refl _), Nat.sub_self] at g2
    cases g1
    cases g2
    exact ⟨xs, e, rfl⟩⟩
theorem Ch.app {H : Hp} {rs rs' : List Addr} {L L' : List Nat} (c : Ch H rs L) (c' : Ch H rs' L') : Ch H (rs ++ rs') (L ++ L') := ⟨by rw [List.length_append, List.length_append, c.len, c'.len], fun i r l g1 g2 => by
  by_cases hi : i < rs.length
  · rw [List.getElem?_append_left hi] at g1
    rw [List.getElem?_append_left (by rw [← c.len]; exact hi)] at g2
    exact c.row i r l g1 g2
  · rw [List.getElem?_append_right (by omega)] at g1
    rw [List.getElem?_append_right (by rw [← c.len]; omega), ← c.len] at g2
    exact c'.row _ r l g1 g2⟩
/-- events and truths in the heap -/
structure Evs (H : Hp) (ep tp : Addr) (es : List Ev) (tt : List (List Bool)) : Prop where
  evs : ∃ us, H ep = some (.lst us) ∧ TpAll H us (es.map Ev.d)
  tts : ∃ rs : List Addr, H tp = some (.lst (rs.map V.ref)) ∧ rs.length = tt.length ∧ ∀ (i : Nat) (r : Addr) (bs : List Bool), rs[i]? = some r → tt[i]? = some bs → H r = some (.lst (bs.map V.bl)) ∧ bs.length = 3
  same : es.length = tt.length
  few : es.length ≤ 10
  ok : ∀ e ∈ es, e.ok
theorem Evs.keep {H H' : Hp} {ep tp : Addr} {es : List Ev} {tt : List (List Bool)} (v : Evs H ep tp es tt) (k : ∀ b xs, H b = some (.lst xs) → (b = ep ∨ b = tp ∨ ∃ bs : List Bool, xs = bs.map V.bl) → H' b = some (.lst xs)) (t : TK H H') : Evs H' ep tp es tt := by
  obtain ⟨us, e1, t1⟩ := v.evs
  obtain ⟨rs, e2, l2, r2⟩ := v.tts
  exact ⟨⟨us, k _ _ e1 (.inl rfl), t1.tk t⟩, ⟨rs, k _ _ e2 (.inr (.inl rfl)), l2, fun i r bs g1 g2 => ⟨k _ _ (r2 i r bs g1 g2).1 (.inr (.inr ⟨bs, rfl⟩)), (r2 i r bs g1 g2).2⟩⟩, v.same, v.few, v.ok⟩
theorem Evs.sm {H H' : Hp} {ep tp : Addr} {es : List Ev} {tt : List (List Bool)} (v : Evs H ep tp es tt) (s : Same H H') : Evs H' ep tp es tt := v.keep (fun b xs e _ => s _ _ e) s.tk
abbrev evAt (es : List Ev) (k : Nat) : Ev := es.getD k (.row 0)
abbrev tAt (tt : List (List Bool)) (k j : Nat) : Bool := (tt.getD k []).getD j false
def mtOf (as : List Atm) (es : List Ev) (tt : List (List Bool)) (a k : Nat) : Bool := match as[a]? with
  | none => false
  | some x => meets x (evAt es k) (tAt tt k a)
theorem ix_ev {K : PySem.W.Frag} {H : Hp} {Q : VK} {ep tp : Addr} {es : List Ev} {tt : List (List Bool)} (v : Evs H ep tp es tt) {k : Nat} (hk : k < es.length) (h : ∀ u, Tp H u (evAt es k).d → (evAt es k).ok → Q u H) : rIx K (.ref ep) (.int k) H Q := by
  obtain ⟨us, e1, t1⟩ := v.evs
  have g : es[k]? = some (evAt es k) := by
    unfold evAt
    rw [List.getD_eq_getElem?_getD, List.getElem?_eq_getElem hk]
    rfl
  obtain ⟨u, gu, tu⟩ := tpAt t1 g
  exact o_ixL (lst_of e1) (atI_nat gu) (h u tu (v.ok _ (List.mem_of_getElem? g)))
theorem ix_tt {K : PySem.W.Frag} {H : Hp} {Q : VK} {ep tp : Addr} {es : List Ev} {tt : List (List Bool)} (v : Evs H ep tp es tt) {k : Nat} (hk : k < es.length) (h : ∀ r, H r = some (.lst ((tt.getD k []).map V.bl)) → (tt.getD k []).length = 3 → Q (.ref r) H) : rIx K (.ref tp) (.int k) H Q := by
  obtain ⟨rs, e2, l2, r2⟩ := v.tts
  have hs := v.same
  have g : tt[k]? = some (tt.getD k []) := by
    rw [List.getD_eq_getElem?_getD, List.getElem?_eq_getElem (by omega)]
    rfl
  have gr := List.getElem?_eq_getElem (l := rs) (i := k) (by omega)
  obtain ⟨e, l⟩ := r2 k _ _ gr g
  exact o_ixL (lst_of e2) (atI_nat (v := .ref rs[k]) (by rw [List.getElem?_map, gr]; rfl)) (h _ e l)
theorem ix_bl {K : PySem.W.Frag} {H : Hp} {Q : VK} {r : Addr} {bs : List Bool} {j : Nat} (e : H r = some (.lst (bs.map V.bl))) (hj : j < bs.length) (h : Q (.bl (bs.getD j false)) H) : rIx K (.ref r) (.int j) H Q := by
  refine o_ixL (lst_of e) (atI_nat (v := .bl (bs.getD j false)) ?_) h
  rw [List.getElem?_map, List.getD_eq_getElem?_getD, List.getElem?_eq_getElem hj]
  rfl
section
variable {P : Program} {w : World} {K : PySem.W.Frag} {mg : Str → Option Value} {base : Heap}
def spReach : Sp := fun vs H Q _ => ∃ (pl ep tp : Addr) (us : List V) (as : List Atm) (es : List Ev) (tt : List (List Bool)) (atoms many : Nat), vs = [.ref pl, .ref ep, .ref tp, .int atoms, .int many] ∧ H pl = some (.tup us) ∧ TpAll H us (as.map Atm.d) ∧ (∀ a ∈ as, a.ok) ∧ Evs H ep tp es tt ∧ atoms ≤ as.length ∧ as.length ≤ 3 ∧ many ≤ es.length ∧
  ∀ H', Same H H' → Q (.bl (decide (atoms ∈ lensN (mtOf as es tt) atoms many))) H'
theorem k_law_reached (T : Tx K mg) : C8.Cal P w K mg base 2 "_law_reached" spReach [] := by
  refine cal_of (N := n_law_reached) T.d_law_reached sc_law_reached (fun _ _ F => F.bindsN fun _ _ _ _ _ _ us hl => match us, hl with | [_, _, _, _, _], _ => rfl) (fun vs H Q E h => ?_) (fun f cdv A outer s H vs Q E hr h => ?_)
  · obtain ⟨pl, ep, tp, us, as, es, tt, atoms, many, rfl, _⟩ := h
    rfl
  · obtain ⟨pl, ep, tp, us, as, es, tt, atoms, many, rfl, hp, tpl, oas, hv, ha, h3, hm, q⟩ := h
    refine ⟨_, (pss_cons (ps_asg (pe_lst (pa_cons (pe_lst pa_nil) pa_nil)) (pg_name (i := 5) sc_law_reached.nd rfl (Or.inl rfl))) (pss_cons (ps_for PassesOwn.never rfl (pi_range1 (by rfl) T.z_range (pa_cons (pv 4) pa_nil)) (pg_name (i := 6) sc_law_reached.nd rfl (Or.inl rfl)) (pss_cons (ps_asg (pe_lst pa_nil) (pg_name (i := 7) sc_law_reached.nd rfl (Or.inl rfl))) (pss_cons (ps_for PassesOwn.never rfl (pi_list (pv 5) : PI _ _ _ (iList K _)) (pg_name (i := 8) sc_law_reached.nd rfl (Or.inl rfl)) (pss_cons (ps_asg (pe_callB (call_len2 : CallR _ _ (rLn K)) (by rfl) T.z_len (by decide +kernel) (pa_cons (pv 8) pa_nil)) (pg_name (i := 9) sc_law_reached.nd rfl (Or.inl rfl))) (pss_one (ps_if (PW.pt (pw_and (pt_cmpR op_lt (pv 9) (pv 3) (nomark _)) (pw_and1 (pt_tr (C8.pe_c (k_law_meets T) hr (by first | decide | omega) (by rfl) (pa_cons (pe_ix (ix_seq : IxR _ (rIx K)) (pv 0) (pv 9) (fun _ _ => rfl)) (pa_cons (pe_ix (ix_seq : IxR _ (rIx K)) (pv 1) (pv 6) (fun _ _ => rfl)) (pa_cons (pe_ix (ix_seq : IxR _ (rIx K)) (pe_ix (ix_seq : IxR _ (rIx K)) (pv 2) (pv 6) (fun _ _ => rfl)) (pv 9) (fun _ _ => rfl)) pa_nil)))) : PT _ _ (tTr K _))))) (pss_one (ps_expr (pe_bm PySem.F.plainAttrs_list PySem.F.slot_list_append PySem.F.type_list_append mt_append (pv 7) (pa_cons (pe_op op_add3 (pv 8) (pe_lst (pa_cons (pv 6) pa_nil))) pa_nil) : PE _ _ (tBM K _ _ _ _)))) pss_nil)))) (pss_one (ps_asg (pe_op op_add3 (pv 5) (pv 7)) (pg_name (i := 5) sc_law_reached.nd rfl (Or.inl rfl))))))) (pss_cons (ps_for PassesOwn.never rfl (pi_list (pv 5) : PI _ _ _ (iList K _)) (pg_name (i := 8) sc_law_reached.nd rfl (Or.inl rfl)) (pss_one (ps_if (pt_cmpR (op_eq2 hr.units : OpR _ _ (rEq2 K)) (pe_callB (call_len2 : CallR _ _ (rLn K)) (by rfl) T.z_len (by decide +kernel) (pa_cons (pv 8) pa_nil)) (pv 3) (nomark _)) (pss_one (ps_ret pe_bl)) pss_nil))) (pss_one (ps_ret pe_bl))))), ?_⟩
    have few := hv.few
    obtain ⟨mt, hmt⟩ : ∃ mt, mt = mtOf as es tt := ⟨_, rfl⟩
    rw [← hmt] at q
    walk_at "xx"
    rename_i r0 H1 n1 s1 e1 f0 H2 n2 s2 e2
    refine f_range (fun k σ H' => ∃ z6 z7 z8 z9 fp rs, σ = [some (.ref pl), some (.ref ep), some (.ref tp), some (.int atoms), some (.int many), some (.ref fp), z6, z7, z8, z9] ∧ Same H H' ∧ H' fp = some (.lst ((rs : List Addr).map V.ref)) ∧ Ch H' rs (lensN mt atoms k))
      ⟨_, _, _, _, f0, [r0], rfl, s1.trans s2, e2, ⟨rfl, fun i r l g1 g2 => ?_⟩⟩ (fun k σ H3 hk p => ?_) (fun σ H3 p => ?_)
    · cases i with
      | zero =>
        cases g1
        cases g2
        exact ⟨[], s2 _ _ e1, rfl⟩
      | succ i => cases g1
    · obtain ⟨z6, z7, z8, z9, fp, rs, rfl, s3, e3, c3⟩ := p
      have hk : k < many := by omega
      have hl := lens_len mt atoms k
      have hl2 : 2 ^ k ≤ 2 ^ 10 := Nat.pow_le_pow_right (by decide) (by omega)
      have lrs := c3.len
      rw [Int.zero_add]
      walk_at "xx"
      rename_i lp H4 n4 s4 e4
      have S4 := s3.trans s4
      have nl : H lp = none := s3.free n4
      have c4 := c3.same s4
      have nlr : lp ∉ rs := fun h => by
        obtain ⟨i, hi, e⟩ := List.getElem_of_mem h
        obtain ⟨xs, e5, _⟩ := c3.row i _ _ (List.getElem?_eq_getElem hi) (List.getElem?_eq_getElem (by omega))
        rw [e, n4] at e5
        cases e5
      have nlf : lp ≠ fp := (ne_of_none e3 n4).symm
      refine f_list (xs := rs.map V.ref) (fun j σ H' => ∃ z8 z9 ls, σ = [some (.ref pl), some (.ref ep), some (.ref tp), some (.int atoms), some (.int many), some (.ref fp), some (.int k), some (.ref lp), z8, z9] ∧ Same H3 H' ∧ H' lp = some (.lst ((ls : List Addr).map V.ref)) ∧ lp ∉ ls ∧
          Ch H' ls ((((lensN mt atoms k).take j).filter fun a => decide (a < atoms) && mt a k).map (· + 1)))
        ⟨_, _, [], rfl, s4, e4, by simp, ⟨rfl, fun i r l g => by cases g⟩⟩ (fun j σ H' hj p => ?_) (fun j x σ H5 hx p => ?_) (fun σ H5 p => ?_)
      · obtain ⟨_, _, _, rfl, s5, _⟩ := p
        exact lst_of (s5 _ _ e3)
      · obtain ⟨z8, z9, ls, rfl, s5, e5, nls, c5⟩ := p
        rw [List.getElem?_map] at hx
        obtain ⟨r, gr, rfl⟩ := Option.map_eq_some_iff.mp hx
        have hj := (List.getElem?_eq_some_iff.mp gr).1
        have gl : (lensN mt atoms k)[j]? = some (lensN mt atoms k)[j] := List.getElem?_eq_getElem (by omega)
        obtain ⟨xs, ex, lx⟩ := c3.row j r _ gr gl
        have ex5 := s5 _ _ ex
        have S5 := s3.trans s5
        have hv5 := hv.sm S5
        have tks : (lensN mt atoms k).take (j + 1) = (lensN mt atoms k).take j ++ [(lensN mt atoms k)[j]] := by rw [List.take_succ, gl]; rfl
        generalize (lensN mt atoms k)[j] = l at lx tks gl
        have lls := c5.len
        rw [List.length_map] at lls
        have hf := List.length_filter_le (fun a => decide (a < atoms) && mt a k) ((lensN mt atoms k).take j)
        rw [List.length_take] at hf
        have skip : (decide (l < atoms) && mt l k) = false → ((((lensN mt atoms k).take (j + 1)).filter fun a => decide (a < atoms) && mt a k).map (· + 1)) = ((((lensN mt atoms k).take j).filter fun a => decide (a < atoms) && mt a k).map (· + 1)) := fun h => by
          rw [tks, List.filter_append]
          simp [List.filter, h]
        walk_at "xx"
        refine b_lenL (lst_of ex5) ?_
        rw [lx]
        walk_at "xx"
        refine iteD (fun e => ?_) (fun e => ?_)
        · have hla : l < as.length := by omega
          have ga : as[l]? = some as[l] := List.getElem?_eq_getElem hla
          obtain ⟨u, gu, tu⟩ := tpAt (tpl.tk S5.tk) ga
          have oa := oas _ (List.mem_of_getElem? ga)
          have hml : mt l k = meets as[l] (evAt es k) (tAt tt k l) := by
            rw [hmt]
            unfold mtOf
            rw [ga]
          walk_at "xx"
          refine o_ixT (tup_of (S5 _ _ hp)) (atI_nat gu) ?_
          walk_at "xx"
          refine ix_ev hv5 (by omega) fun ev tev oev => ?_
          walk_at "xx"
          refine ix_tt hv5 (by omega) fun tr er lr => ?_
          walk_at "xx"
          refine ix_bl er (by omega) ?_
          walk_at "xx"
          refine ⟨_, _, as[l], evAt es k, tAt tt k l, rfl, tu, tev, oa, oev, fun H6 s6 => ?_⟩
          rw [← hml]
          have hc : (decide (l < atoms) && mt l k) = mt l k := by rw [decide_eq_true (show l < atoms by omega), Bool.true_and]
          cases hq : mt l k with
          | false =>
            walk_at "xx"
            exact ⟨_, _, ls, rfl, s5.trans s6, s6 _ _ e5, nls, by rw [skip (hc.trans hq)]; exact c5.same s6⟩
          | true =>
            walk_at "xx"
            refine m_ty (lst_of (s6 _ _ e5)) ?_
            walk_at "xx"
            rename_i p7 H7 n7 s7 e7
            refine o_addL (s7 _ _ (s6 _ _ ex5)) e7 (by rw [lx]; exact lz (by show l + 1 ≤ _; omega)) fun np H8 n8 s8 e8 => ?_
            have e58 := s8 _ _ (s7 _ _ (s6 _ _ e5))
            have S8 : Same H5 H8 := s6.trans (s7.trans s8)
            walk_at "xx"
            refine m_app e58 (small1000' (by rw [List.length_map]; omega)) fun H9 c9 e9 => ?_
            have nnp : np ≠ lp := (ne_of_none (s7 _ _ (s6 _ _ e5)) n8).symm
            walk_at "xx"
            refine ⟨_, _, ls ++ [np], rfl, c9.same (s5.trans S8) n4, by rw [e9, List.map_append]; rfl, fun h => ?_, ?_⟩
            · rcases List.mem_append.mp h with h | h
              · exact nls h
              · exact nnp (List.mem_singleton.mp h).symm
            · have c8 := ((c5.same S8).chg c9 nls).snoc (c9.at e8 nnp)
              have : ((((lensN mt atoms k).take (j + 1)).filter fun a => decide (a < atoms) && mt a k).map (· + 1)) = ((((lensN mt atoms k).take j).filter fun a => decide (a < atoms) && mt a k).map (· + 1)) ++ [(xs ++ [V.int (k : Int)]).length] := by
                rw [tks, List.filter_append, List.map_append]
                simp [List.filter, hc.trans hq, lx]
              rw [this]
              exact c8
        · walk_at "xx"
          exact ⟨_, _, ls, rfl, s5, e5, nls, by rw [skip (by rw [decide_eq_false (show ¬ l < atoms by omega)]; rfl)]; exact c5⟩
      · obtain ⟨z8, z9, ls, rfl, s5, e5, nls, c5⟩ := p
        rw [List.length_map, lrs, List.take_length] at c5
        have lls := c5.len
        rw [List.length_map] at lls
        have hf := List.length_filter_le (fun a => decide (a < atoms) && mt a k) (lensN mt atoms k)
        walk_at "xx"
        refine o_addL (s5 _ _ e3) e5 (by rw [List.length_map, List.length_map]; exact Nat.le_of_lt (small1000' (by omega))) fun np H8 n8 s8 e8 => ?_
        walk_at "xx"
        refine ⟨_, _, _, _, np, rs ++ ls, rfl, s3.trans (s5.trans s8), by rw [e8, List.map_append], ?_⟩
        exact ((c3.same s5).app c5).same s8
    · obtain ⟨z6, z7, z8, z9, fp, rs, rfl, s3, e3, c3⟩ := p
      rw [Int.toNat_natCast] at c3
      have lrs := c3.len
      walk_at "xx"
      refine f_list (xs := rs.map V.ref) (fun j σ H' => ∃ z8, σ = [some (.ref pl), some (.ref ep), some (.ref tp), some (.int atoms), some (.int many), some (.ref fp), z6, z7, z8, z9] ∧ Same H3 H' ∧ ∀ i l, i < j → (lensN mt atoms many)[i]? = some l → l ≠ atoms)
        ⟨_, rfl, Same.refl _, fun i l hi => absurd hi (Nat.not_lt_zero _)⟩ (fun j σ H' hj p => ?_) (fun j x σ H5 hx p => ?_) (fun σ H5 p => ?_)
      · obtain ⟨_, rfl, s5, _⟩ := p
        exact lst_of (s5 _ _ e3)
      · obtain ⟨z8, rfl, s5, no⟩ := p
        rw [List.getElem?_map] at hx
        obtain ⟨r, gr, rfl⟩ := Option.map_eq_some_iff.mp hx
        have hj := (List.getElem?_eq_some_iff.mp gr).1
        have gl : (lensN mt atoms many)[j]? = some (lensN mt atoms many)[j] := List.getElem?_eq_getElem (by omega)
        obtain ⟨xs, ex, lx⟩ := c3.row j r _ gr gl
        walk_at "xx"
        refine b_lenL (lst_of (s5 _ _ ex)) ?_
        rw [lx]
        walk_at "xx"
        refine iteI (fun e => ?_) (fun e => ?_)
        · walk_at "xx"
          have : decide (atoms ∈ lensN mt atoms many) = true := decide_eq_true (by
            have := List.mem_of_getElem? gl
            rwa [show (lensN mt atoms many)[j] = atoms by omega] at this)
          rw [this] at q
          exact q _ (s3.trans s5)
        · walk_at "xx"
          refine ⟨_, rfl, s5, fun i l hi g => ?_⟩
          by_cases hij : i = j
          · subst hij
            rw [gl] at g
            cases g
            omega
          · exact no i l (by omega) g
      · obtain ⟨z8, rfl, s5, no⟩ := p
        walk_at "xx"
        have : decide (atoms ∈ lensN mt atoms many) = false := decide_eq_false (fun h => by
          obtain ⟨i, hi, e⟩ := List.getElem_of_mem h
          exact no i _ (by rw [List.length_map]; omega) (List.getElem?_eq_getElem hi) e)
        rw [this] at q
        exact q _ (s3.trans s5)
end
end K10
namespace K10
open PySem PySem.Spec PyProof.Rows L2 Wy WN WQ WS WC WE WO
open WT (KeepBut)

-- WIDE
-- CUTIF law := watch.progress != progressX
theorem bl_ne {H : Hp} {a b : Addr} {bs : List Bool} {xs : List V} (e1 : H a = some (.lst (bs.map V.bl))) (l : bs.length = 3) (e2 : H b = some (.lst xs)) (hx : ∀ x, xs[0]? = some x → ∃ r, x = .ref r) : a ≠ b := by
  intro e
  subst e
  rw [e1] at e2
  have e3 : bs.map V.bl = xs := by injection (Option.some.inj e2)
  cases bs with
  | nil => cases l
  | cons b r =>
    obtain ⟨r', h⟩ := hx (.bl b) (by rw [← e3]; rfl)
    cases h
theorem refs_hd {rs : List Addr} : ∀ x, (rs.map V.ref)[0]? = some x → ∃ r, x = V.ref r := by
  intro x h
  rw [List.getElem?_map] at h
  obtain ⟨r, _, rfl⟩ := Option.map_eq_some_iff.mp h
  exact ⟨r, rfl⟩
theorem tups_hd {H : Hp} {us : List V} {es : List Ev} (t : TpAll H us (es.map Ev.d)) : ∀ x, us[0]? = some x → ∃ r, x = V.ref r := by
  intro x h
  obtain ⟨e, _, te⟩ := tpGet t h
  obtain ⟨p, _, _, _, h2, _⟩ := atm_at (a := .ev e) te
  exact ⟨p, h2⟩
theorem see_one {K : PySem.W.Frag} {H : Hp} {Q : VK} {x dx pl : Addr} {us : List V} {as : List Atm} {p : Nat} {e : Ev} {t : Bool} (hw : WatAt K H x dx pl us as p)
    (h : ∀ H', KeepBut [x] H H' → WatAt K H' x dx pl us as (if stepB as p e t = true then p + 1 else p) → Q (.bl (stepB as p e t && decide (p + 1 = as.length))) H') :
    (stepB as p e t = false → ∀ H', Same H H' → Q (.bl false) H') ∧ (stepB as p e t = true → ∀ H', (∀ b o, b ≠ x → H b = some o → H' b = some o) → WatAt K H' x dx pl us as (p + 1) → Q (.bl (decide (p + 1 = as.length))) H') := by
  constructor
  · intro q H' s
    have := h H' (WT.Same.but s) (by rw [if_neg (by rw [q]; exact Bool.false_ne_true)]; exact hw.same s)
    rw [q] at this
    exact this
  · intro q H' k w
    have := h H' (fun b o n e => k b o (fun z => n (z ▸ List.mem_singleton_self _)) e) (by rw [if_pos q]; exact w)
    rw [q] at this
    exact this
theorem see_call {K : PySem.W.Frag} {H : Hp} {Q : VK} {E : XK} {x dx pl : Addr} {us : List V} {as : List Atm} {p : Nat} {ev : V} {e : Ev} {t : Bool} (hw : WatAt K H x dx pl us as p) (te : Tp H ev e.d) (oe : e.ok)
    (h : ∀ H', KeepBut [x] H H' → WatAt K H' x dx pl us as (if stepB as p e t = true then p + 1 else p) → Q (.bl (stepB as p e t && decide (p + 1 = as.length))) H') : spSee K [.ref x, ev, .bl t] H Q E :=
  ⟨x, dx, pl, us, as, p, ev, e, t, rfl, hw, te, oe, see_one hw h⟩
/-- what the truth is, and the step -/
def tvOf (as : List Atm) (es : List Ev) (tt : List (List Bool)) (p k : Nat) : Bool := match wanted as p (evAt es k) with
  | none => tAt tt k 2
  | some _ => tAt tt k p
theorem step_mt {as : List Atm} {es : List Ev} {tt : List (List Bool)} {p k : Nat} : stepB as p (evAt es k) (tvOf as es tt p k) = (decide (p < as.length) && mtOf as es tt p k) := by
  unfold stepB mtOf tvOf wanted
  by_cases h : p < as.length
  · rw [decide_eq_true h, List.getElem?_eq_getElem h, Bool.true_and]
    simp only
    cases as[p] with
    | ev e' => rfl
    | wh r s l m =>
      rw [wantA_wh, meets_wh, meets_wh]
      by_cases e : evAt es k = .row r
      · rw [if_pos e]
      · rw [decide_eq_false e, Bool.false_and, Bool.false_and]
  · rw [List.getElem?_eq_none (by omega), decide_eq_false h]
    rfl
theorem wanted_sh {as : List Atm} {p : Nat} {e : Ev} {D : PyData} (h : wanted as p e = some D) (ok : ∀ a ∈ as, a.ok) : p < as.length ∧ SeqAt.shaped D = true ∧ ∃ ds, D = .tuple ds := by
  unfold wanted at h
  cases g : as[p]? with
  | none =>
    rw [g] at h
    cases h
  | some a =>
    rw [g] at h
    have hp := (List.getElem?_eq_some_iff.mp g).1
    have oa := ok a (List.mem_of_getElem? g)
    cases a with
    | ev e' => cases h
    | wh r s l m =>
      have h : (if e = .row r then some (PyData.tuple [.str s, l, m]) else none) = some D := h
      split at h
      · cases h
        obtain ⟨o1, o2, o3⟩ := oa
        have key : ∀ s ∈ SGN, ∀ l ∈ LF, ∀ m ∈ RT, SeqAt.shaped (.tuple [.str s, l, m]) = true := by decide +kernel
        exact ⟨hp, key s o1 l o2 m o3, _, rfl⟩
      · cases h
section
variable {P : Program} {w : World} {K : PySem.W.Frag} {mg : Str → Option Value} {base : Heap}
theorem hand_ne {H : Hp} {h d b : Addr} (x : HandAt H h d) (n : H b = none) : b ≠ h := fun e => by
  obtain ⟨_, _, e1, _, _⟩ := x
  rw [← e, n] at e1
  cases e1
theorem hand_nd {H : Hp} {h d b : Addr} (x : HandAt H h d) (n : H b = none) : b ≠ d := fun e => by
  obtain ⟨_, _, _, _, e1⟩ := x
  rw [← e, n] at e1
  cases e1
theorem watk {K : PySem.W.Frag} {H H' : Hp} {b x dx pl : Addr} {us : List V} {as : List Atm} {p : Nat} (w : WatAt K H x dx pl us as p) (k : KeepBut [b] H H') (hb : x ≠ b) (t : TK H H') : WatAt K H' x dx pl us as p := ⟨k _ _ (fun z => hb (List.mem_singleton.mp z)) w.ins, t _ _ w.place, w.atoms.tk t, w.ok, w.few⟩
theorem handk {H H' : Hp} {b h d C dx : Addr} {fs : List (Str × V)} (hh : HandAt H h d) (k : KeepBut [b] H H') (e : H b = some (.ins C dx fs)) : HandAt H' h d := by
  obtain ⟨n, ds, e1, e2, e3⟩ := hh
  exact ⟨n, ds, k _ _ (fun z => by rw [List.mem_singleton.mp z, e] at e1; cases e1) e1, e2, k _ _ (fun z => by rw [List.mem_singleton.mp z, e] at e3; cases e3) e3⟩
theorem tk_ins {H H' : Hp} {b C dx : Addr} {fs : List (Str × V)} (k : KeepBut [b] H H') (e : H b = some (.ins C dx fs)) : TK H H' := k.tk fun a ha => by
  obtain rfl := List.mem_singleton.mp ha
  exact ⟨_, e, rfl⟩
theorem k3 {h x y b : Addr} {H0 H H' : Hp} (k : KeepBut [h, x, y] H0 H) (k' : KeepBut [b] H H') (hb : b ∈ [h, x, y]) : KeepBut [h, x, y] H0 H' := k.trans (k'.mono fun a ha => by rw [List.mem_singleton.mp ha]; exact hb)
structure Good (K : PySem.W.Frag) (H0 H : Hp) (h d x y dx dy pl pl2 : Addr) (us vs : List V) (as bs : List Atm) (p p2 : Nat) : Prop where
  kb : KeepBut [h, x, y] H0 H
  hand : HandAt H h d
  wx : WatAt K H x dx pl us as p
  wy : WatAt K H y dy pl2 vs bs p2
theorem Good.same {K : PySem.W.Frag} {H0 H H' : Hp} {h d x y dx dy pl pl2 : Addr} {us vs : List V} {as bs : List Atm} {p p2 : Nat} (g : Good K H0 H h d x y dx dy pl pl2 us vs as bs p p2) (s : Same H H') : Good K H0 H' h d x y dx dy pl pl2 us vs as bs p p2 :=
  ⟨g.kb.trans (WT.Same.but s), g.hand.same s, g.wx.same s, g.wy.same s⟩
theorem ok_law (T : Tx K mg) {f : Addr} {fd : FuncData} (F : FunD K "law" "law" (defArgs s_law) (defBody s_law) (defScope s_law) [] [] f fd) : FnOk P w K mg base CX0 5 f fd ["script"] (spLaw K) := by
  refine fn_of2 (N := n_law) F sc_law (fun vs H Q E h => ?_) (fun f cdv A outer s H vs Q E hr h => ?_)
  · obtain ⟨a, ns, rfl, _⟩ := h
    rfl
  · obtain ⟨a0, zs, rfl, hS, hl, q⟩ := h
    refine ⟨_, (pss_cons (ps_asg (pe_lst (pa_cons (C8.pe_c (k_law_draws T) hr (by first | decide | omega) (by rfl) (pa_cons (pv 0) (pa_cons pe_int pa_nil))) (pa_cons pe_int pa_nil))) (pg_name (i := 1) sc_law.nd rfl (Or.inr rfl))) (pss_cons (ps_asg (pe_ix (ix_seq : IxR _ (rIx K)) (pe_lst (pa_cons pe_int (pa_cons (pe_op op_add3 pe_int (C8.pe_c (k_law_take T) hr (by first | decide | omega) (by rfl) (pa_cons (pv 1) (pa_cons pe_int pa_nil)))) pa_nil))) (C8.pe_c (k_law_take T) hr (by first | decide | omega) (by rfl) (pa_cons (pv 1) (pa_cons pe_int pa_nil))) (fun _ _ => rfl)) (pg_name (i := 2) sc_law.nd rfl (Or.inr rfl))) (pss_cons (ps_asg (pe_callTy (W6.call_tup2 : CallR _ _ (W6.rTup K)) (by rfl) T.z_tuple (by decide +kernel) (pa_cons (pe_lc (own := [("k", 3)]) (g := gName 3) (tt := tYes) (by rfl) sc_law.nd (pi_range1 (by rfl) T.z_range (pa_cons (pe_ix (ix_seq : IxR _ (rIx K)) (pe_lst (pa_cons pe_int (pa_cons pe_int (pa_cons pe_int (pa_cons pe_int (pa_cons pe_int (pa_cons pe_int pa_nil))))))) (C8.pe_c (k_law_take T) hr (by first | decide | omega) (by rfl) (pa_cons (pv 1) (pa_cons pe_int pa_nil))) (fun _ _ => rfl)) pa_nil)) (blkOk_by (own := [("k", 3)]) (N := n_law) (sc := defScope s_law) (by decide +kernel)) (fun _ _ _ _ _ => pg_name (i := 3) sc_law.nd rfl (Or.inl rfl)) (fun _ _ _ _ _ => pts_nil) (fun _ _ _ _ _ => (C8.pe_c (k_law_atom T) hr (by first | decide | omega) (by rfl) (pa_cons (pv 1) (pa_cons (pv 2) pa_nil))))) pa_nil)) (pg_name (i := 4) sc_law.nd rfl (Or.inl rfl))) (pss_cons (ps_asg (C8.pe_mk (k_Watch___init (K := K) T) hr (by first | decide | omega) (by rfl) (pa_cons (pe_tup (pa_cons (C8.pe_c (k_law_atom T) hr (by first | decide | omega) (by rfl) (pa_cons (pv 1) (pa_cons (pv 2) pa_nil))) (pa_cons (C8.pe_c (k_law_atom T) hr (by first | decide | omega) (by rfl) (pa_cons (pv 1) (pa_cons (pv 2) pa_nil))) pa_nil))) pa_nil)) (pg_name (i := 5) sc_law.nd rfl (Or.inl rfl))) (pss_cons (ps_asg (pe_lst pa_nil) (pg_name (i := 6) sc_law.nd rfl (Or.inl rfl))) (pss_cons (ps_asg (pe_lst pa_nil) (pg_name (i := 7) sc_law.nd rfl (Or.inl rfl))) (pss_cons (ps_for PassesOwn.never rfl (pi_range1 (by rfl) T.z_range (pa_cons (C8.pe_c (k_law_take T) hr (by first | decide | omega) (by rfl) (pa_cons (pv 1) (pa_cons pe_int pa_nil))) pa_nil)) (pg_name (i := 3) sc_law.nd rfl (Or.inl rfl)) (pss_cons (ps_expr (pe_bm PySem.F.plainAttrs_list PySem.F.slot_list_append PySem.F.type_list_append mt_append (pv 6) (pa_cons (C8.pe_c (k_law_event T) hr (by first | decide | omega) (by rfl) (pa_cons (pv 1) (pa_cons (pv 2) pa_nil))) pa_nil) : PE _ _ (tBM K _ _ _ _))) (pss_one (ps_expr (pe_bm PySem.F.plainAttrs_list PySem.F.slot_list_append PySem.F.type_list_append mt_append (pv 7) (pa_cons (pe_lc (own := [("one", 16)]) (g := gName 16) (tt := tYes) (by rfl) sc_law.nd (pi_range1 (by rfl) T.z_range (pa_cons pe_int pa_nil)) (blkOk_by (own := [("one", 16)]) (N := n_law) (sc := defScope s_law) (by decide +kernel)) (fun _ _ _ _ _ => pg_name (i := 16) sc_law.nd rfl (Or.inl rfl)) (fun _ _ _ _ _ => pts_nil) (fun _ _ _ _ _ => (pe_cmpR op_gt (C8.pe_c (k_law_take T) hr (by first | decide | omega) (by rfl) (pa_cons (pv 1) (pa_cons pe_int pa_nil))) pe_int (nomark _)))) pa_nil) : PE _ _ (tBM K _ _ _ _)))))) (pss_cons (ps_asg (C8.pe_mk (k_Watch___init (K := K) T) hr (by first | decide | omega) (by rfl) (pa_cons (pv 4) pa_nil)) (pg_name (i := 8) sc_law.nd rfl (Or.inl rfl))) (pss_cons (ps_if (PW.pt (pw_or (pt_not (pt_tr (pe_callB (call_isi2 : CallR _ _ (rIsi2 K)) (by rfl) T.z_isinstance (by decide +kernel) (pa_cons (WO.pe_fldK (K := K) (pv 8)) (pa_cons (pe_bltn (v := .ty "int") (by rfl) T.z_int (by decide +kernel) rfl) pa_nil))) : PT _ _ (tTr K _))) (pw_or (pt_tr (pe_callB (call_isi2 : CallR _ _ (rIsi2 K)) (by rfl) T.z_isinstance (by decide +kernel) (pa_cons (WO.pe_fldK (K := K) (pv 8)) (pa_cons (pe_bltn (v := .ty "bool") (by rfl) T.z_bool (by decide +kernel) rfl) pa_nil))) : PT _ _ (tTr K _)) (pw_or1 (pt_cmpR (op_ne2 hr.units : OpR _ _ (rNe2 K)) (WO.pe_fldK (K := K) (pv 8)) pe_int (nomark _)))))) (pss_one (ps_ret pe_bl)) pss_nil) (pss_cons (ps_asg pe_int (pg_name (i := 9) sc_law.nd rfl (Or.inl rfl))) (pss_cons (ps_for PassesOwn.never rfl (pi_range1 (by rfl) T.z_range (pa_cons (pe_callB (call_len2 : CallR _ _ (rLn K)) (by rfl) T.z_len (by decide +kernel) (pa_cons (pv 6) pa_nil)) pa_nil)) (pg_name (i := 3) sc_law.nd rfl (Or.inl rfl)) (pss_cons (ps_asg (C8.pe_c (k_law_wanted T) hr (by first | decide | omega) (by rfl) (pa_cons (pv 4) (pa_cons (pv 9) (pa_cons (pe_ix (ix_seq : IxR _ (rIx K)) (pv 6) (pv 3) (fun _ _ => rfl)) pa_nil)))) (pg_name (i := 10) sc_law.nd rfl (Or.inl rfl))) (pss_cons (ps_asg (pe_ix (ix_seq : IxR _ (rIx K)) (pe_ix (ix_seq : IxR _ (rIx K)) (pv 7) (pv 3) (fun _ _ => rfl)) pe_int (fun _ _ => rfl)) (pg_name (i := 11) sc_law.nd rfl (Or.inl rfl))) (C8.pss_cut (ps_if (pt_cmpR op_ntN2 (pv 10) pe_non (nomark _)) (pss_one (ps_asg (pe_ix (ix_seq : IxR _ (rIx K)) (pe_ix (ix_seq : IxR _ (rIx K)) (pv 7) (pv 3) (fun _ _ => rfl)) (pv 9) (fun _ _ => rfl)) (pg_name (i := 11) sc_law.nd rfl (Or.inl rfl)))) pss_nil) (C8.pss_cut (ps_if (pt_cmpR op_gt (C8.pe_c (k_law_take T) hr (by first | decide | omega) (by rfl) (pa_cons (pv 1) (pa_cons pe_int pa_nil))) pe_int (nomark _)) (pss_cons (ps_asg (C8.pe_mt (k_Watch_wanted (K := K) T) hr (by first | decide | omega) (pv 8) (pa_cons (pe_ix (ix_seq : IxR _ (rIx K)) (pv 6) (pv 3) (fun _ _ => rfl)) pa_nil)) (pg_name (i := 12) sc_law.nd rfl (Or.inl rfl))) (pss_one (ps_if (PW.pt (pw_or (PW.pt (pw_and (pt_cmpR op_isN2 (pv 10) pe_non (nomark _)) (pw_and1 (pt_cmpR op_ntN2 (pv 12) pe_non (nomark _))))) (pw_or (PW.pt (pw_and (pt_cmpR op_ntN2 (pv 10) pe_non (nomark _)) (pw_and1 (pt_not (pt_tr (pe_callB (call_isi2 : CallR _ _ (rIsi2 K)) (by rfl) T.z_isinstance (by decide +kernel) (pa_cons (pv 12) (pa_cons (pe_bltn (v := .ty "tuple") (by rfl) T.z_tuple (by decide +kernel) rfl) pa_nil))) : PT _ _ (tTr K _)))))) (pw_or1 (pt_cmpR (op_ne2 hr.units : OpR _ _ (rNe2 K)) (pv 12) (pv 10) (nomark _)))))) (pss_one (ps_ret pe_bl)) pss_nil))) pss_nil) (C8.pss_cut (ps_if (pt_cmpR (op_eq2 hr.units : OpR _ _ (rEq2 K)) (C8.pe_c (k_law_take T) hr (by first | decide | omega) (by rfl) (pa_cons (pv 1) (pa_cons pe_int pa_nil))) pe_int (nomark _)) (pss_one (ps_expr (C8.pe_mt (k_Watch_wanted (K := K) T) hr (by first | decide | omega) (pv 8) (pa_cons (pe_ix (ix_seq : IxR _ (rIx K)) (pv 6) (C8.pe_c (k_law_take T) hr (by first | decide | omega) (by rfl) (pa_cons (pv 1) (pa_cons (pe_callB (call_len2 : CallR _ _ (rLn K)) (by rfl) T.z_len (by decide +kernel) (pa_cons (pv 6) pa_nil)) pa_nil))) (fun _ _ => rfl)) pa_nil)))) pss_nil) (pss_cons (ps_asg (C8.pe_mt (k_Watch_see (K := K) T) hr (by first | decide | omega) (pv 8) (pa_cons (pe_ix (ix_seq : IxR _ (rIx K)) (pv 6) (pv 3) (fun _ _ => rfl)) (pa_cons (pv 11) pa_nil))) (pg_name (i := 13) sc_law.nd rfl (Or.inl rfl))) (C8.pss_cut (ps_if (pt_cmpR op_lt (WO.pe_fldK (K := K) (pv 5)) pe_int (nomark _)) (pss_one (ps_expr (C8.pe_mt (k_Watch_see (K := K) T) hr (by first | decide | omega) (pv 5) (pa_cons (pe_ix (ix_seq : IxR _ (rIx K)) (pv 6) (pv 3) (fun _ _ => rfl)) (pa_cons (pe_ix (ix_seq : IxR _ (rIx K)) (pe_ix (ix_seq : IxR _ (rIx K)) (pv 7) (pv 3) (fun _ _ => rfl)) pe_int (fun _ _ => rfl)) pa_nil))))) pss_nil) (pss_cons (ps_for PassesOwn.never rfl (pi_range2 (by rfl) T.z_range (pa_cons pe_int (pa_cons (pe_op op_add3 (pe_callB (call_len2 : CallR _ _ (rLn K)) (by rfl) T.z_len (by decide +kernel) (pa_cons (pv 4) pa_nil)) pe_int) pa_nil))) (pg_name (i := 14) sc_law.nd rfl (Or.inl rfl)) (pss_one (ps_if (pt_tr (C8.pe_c (k_law_reached T) hr (by first | decide | omega) (by rfl) (pa_cons (pv 4) (pa_cons (pv 6) (pa_cons (pv 7) (pa_cons (pv 14) (pa_cons (pe_op op_add3 (pv 3) pe_int) pa_nil)))))) : PT _ _ (tTr K _)) (pss_one (ps_asg (pe_callC cc_max (by rfl) T.z_max (by decide +kernel) (pa_cons (pv 9) (pa_cons (pe_callTy call_int2 (by rfl) T.z_int (by decide +kernel) (pa_cons (pv 14) pa_nil)) pa_nil))) (pg_name (i := 9) sc_law.nd rfl (Or.inl rfl)))) pss_nil))) (pss_cons (ps_if (pt_cmpR (op_ne2 hr.units : OpR _ _ (rNe2 K)) (WO.pe_fldK (K := K) (pv 8)) (pv 9) (nomark _)) (pss_one (ps_ret pe_bl)) pss_nil) (pss_cons (ps_asg (pe_and (pe_cmpR op_gt (pe_callB (call_len2 : CallR _ _ (rLn K)) (by rfl) T.z_len (by decide +kernel) (pa_cons (pv 4) pa_nil)) pe_int (nomark _)) (pe_one (pe_cmpR (op_eq2 hr.units : OpR _ _ (rEq2 K)) (pv 9) (pe_callB (call_len2 : CallR _ _ (rLn K)) (by rfl) T.z_len (by decide +kernel) (pa_cons (pv 4) pa_nil)) (nomark _)))) (pg_name (i := 15) sc_law.nd rfl (Or.inl rfl))) (pss_cons (ps_if (PW.pt (pw_or (pt_not (pt_tr (pe_callB (call_isi2 : CallR _ _ (rIsi2 K)) (by rfl) T.z_isinstance (by decide +kernel) (pa_cons (pv 13) (pa_cons (pe_bltn (v := .ty "bool") (by rfl) T.z_bool (by decide +kernel) rfl) pa_nil))) : PT _ _ (tTr K _))) (pw_or1 (pt_cmpR (op_ne2 hr.units : OpR _ _ (rNe2 K)) (pv 13) (pv 15) (nomark _))))) (pss_one (ps_ret pe_bl)) pss_nil) (pss_one (ps_if (pt_tr (pv 15) : PT _ _ (tTr K _)) (pss_one (ps_ret pe_bl)) pss_nil)))))))))))))) (pss_one (ps_ret pe_bl))))))))))))), ?_⟩
    have cl := T.c_Watch
    have na1 := T.a_Watch_progress
    walk_at "xx"
    refine ⟨a0, zs, 200, rfl, hS, hl, by decide, by decide, fun d H1 ds s1 n1 e1 => ?_⟩
    walk_at "xx"
    rename_i h H2 n2 s2 e2
    have hh : HandAt H2 h d := ⟨0, ds, e2, Int.le_refl 0, s2 _ _ e1⟩
    clear s1 n1 e1 s2 n2 e2
    refine ⟨h, d, 58, rfl, hh, by decide, fun b0 H3 b00 b01 c3 hh3 => ?_⟩
    walk_at "xx"
    rename_i bp H4 n4 s4 e4
    refine ⟨h, d, 2, rfl, hh3.same s4, by decide, fun b1 H5 b10 b11 c5 hh5 => ?_⟩
    refine ix_int (xs := [1, 1 + b0]) (lst_of (c5.at e4 (hand_ne hh3 n4))) b10 (by exact b11) fun bs _ => ?_
    clear c3 s4 e4 n4 c5 hh hh3 b00 b01 b10 b11
    walk_at "xx"
    rename_i bp H4 n4 s4 e4
    refine ⟨h, d, 6, rfl, hh5.same s4, by decide, fun b1 H6 b10 b11 c6 hh6 => ?_⟩
    refine ix_int (xs := [3, 2, 1, 2, 3, 0]) (lst_of (c6.at e4 (hand_ne hh5 n4))) b10 (by exact b11) fun np gnp => ?_
    have hnp : 0 ≤ np ∧ np ≤ 3 := by
      have key : ∀ x ∈ ([3, 2, 1, 2, 3, 0] : List Int), 0 ≤ x ∧ x ≤ 3 := by decide
      exact key np (List.mem_of_getElem? gnp)
    clear s4 e4 n4 c6 hh5 b10 b11 gnp
    walk_at "xx"
    refine c_range (n := np.toNat) (fun D i H' => HandAt H' h d ∧ D ≠ h ∧ D ≠ d ∧ ∃ us as, H' D = some (.lst us) ∧ TpAll H' us ((as : List Atm).map Atm.d) ∧ as.length = i ∧ ∀ a ∈ as, a.ok) (fun D H' nD s' e' => ⟨hh6.same s', hand_ne hh6 nD, hand_nd hh6 nD, [], [], e', .nil, rfl, fun _ h => by cases h⟩) (fun D i H' hi nD p => ?_) (fun D H' nD p => ?_)
    · obtain ⟨hh', hDh, hDd, us, as, eD, tD, lD, oD'⟩ := p
      have lus := tD.length
      rw [List.length_map] at lus
      walk_at "xx"
      refine ⟨rfl, ?_⟩
      walk_at "xx"
      refine ⟨h, d, bs, rfl, hh', fun v H'' a k2 hh2 t2 o2 => ?_⟩
      have tk2 := hh'.keep_tk k2
      have eD2 := k2.at eD hDh
      refine c_out eD2 (small1000 (by omega)) fun H3 c3 e3 => ⟨hh2.chg c3 (Ne.symm hDh) (Ne.symm hDd), hDh, hDd, us ++ [v], as ++ [a], e3, ?_, by rw [List.length_append, lD]; rfl, fun x hx => ?_⟩
      · rw [List.map_append]
        exact tpSnoc (tD.tk (tk2.trans (c3.tk eD2))) (t2.tk (c3.tk eD2))
      · rcases List.mem_append.mp hx with hx | hx
        · exact oD' x hx
        · rw [List.mem_singleton.mp hx]
          exact o2
    obtain ⟨hh7, hD1, hD2, us, as, eD, tD, lD, oas⟩ := p
    have la3 : as.length ≤ 3 := by omega
    clear hh6 nD
    walk_at "xx"
    refine tp_new (lst_of eD) fun pl H8 n8 s8 e8 => ?_
    have hh8 := hh7.same s8
    have t8 := tD.tk s8.tk
    clear hh7 s8 eD tD n8 hD1 hD2
    walk_at "xx"
    refine ⟨h, d, bs, rfl, hh8, fun v1 H9 a1 k9 hh9 t9 o9 => ?_⟩
    walk_at "xx"
    refine ⟨h, d, bs, rfl, hh9, fun v2 H10 a2 k10 hh10 t10 o10 => ?_⟩
    walk_at "xx"
    rename_i pl2 H11 n11 s11 e11
    have neh : ∀ {H' : Hp} {b xs}, HandAt H' h d → H' b = some (.tup xs) → b ≠ h := fun {H' b xs} x e q => by
      obtain ⟨_, _, e1, _, _⟩ := x
      rw [← q, e] at e1
      cases e1
    have e8' := s11 _ _ (k10.at (k9.at e8 (neh hh8 e8)) (neh hh9 (k9.at e8 (neh hh8 e8))))
    have tk9 := hh8.keep_tk k9
    have tk10 := hh9.keep_tk k10
    have t8' := t8.tk (tk9.trans (tk10.trans s11.tk))
    have t2' : TpAll H11 [v1, v2] ([a1, a2].map Atm.d) := .cons (t9.tk (tk10.trans s11.tk)) (.cons (t10.tk s11.tk) .nil)
    have hh11 := hh10.same s11
    clear k9 k10 hh8 hh9 hh10 t9 t10 t8 e8 s11 n11 tk9 tk10
    walk_at "xx"
    refine k_make fun y dy H12 ny nd2 _ s12 e12 _ => ?_
    refine ⟨y, dy, pl2, rfl, e12, fun H13 k13 e13 => ⟨rfl, ?_⟩⟩
    have S13 : Same H11 H13 := fun b o e => k13 b o (ne_of_none e ny) (s12 _ _ e)
    have wy : WatAt K H13 y dy pl2 [v1, v2] [a1, a2] 0 := ⟨e13, S13 _ _ e11, t2'.tk S13.tk, fun a ha => by
      simp only [List.mem_cons, List.not_mem_nil, or_false] at ha
      rcases ha with rfl | rfl
      · exact o9
      · exact o10, by simp⟩
    have ep13 := S13 _ _ e8'
    have tp13 := t8'.tk S13.tk
    have hh13 := hh11.same S13
    clear S13 k13 s12 e12 nd2 ny e11 t2' e8' t8' hh11
    walk_at "xx"
    rename_i evp H14 n14 s14 e14 ttp H15 n15 s15 e15
    have hh15 := (hh13.same s14).same s15
    have hv0 : Evs H15 evp ttp [] [] := ⟨⟨[], s15 _ _ e14, .nil⟩, ⟨[], e15, rfl, fun i r bs g => by cases g⟩, rfl, Nat.zero_le _, fun e h => by cases h⟩
    have n1 : evp ≠ ttp := ne_of_none e14 n15
    have n2 : evp ≠ h := hand_ne hh13 n14
    have n3 : ttp ≠ h := hand_ne (hh13.same s14) n15
    have n4 : evp ≠ d := hand_nd hh13 n14
    have n5 : ttp ≠ d := hand_nd (hh13.same s14) n15
    have wy := wy.same (s14.trans s15)
    have ep13 := (s14.trans s15) _ _ ep13
    have tp13 := tp13.tk (s14.trans s15).tk
    have nly : ∀ xs, H15 y ≠ some (.lst xs) := fun xs e => by
      rw [wy.ins] at e
      cases e
    have nyl : y ∉ [h, evp, ttp] := fun hm => by
      simp only [List.mem_cons, List.not_mem_nil, or_false] at hm
      obtain ⟨_, _, e1, _, _⟩ := hh15
      rcases hm with e | e | e
      · exact nly _ (e ▸ e1)
      · exact nly _ (e ▸ s15 _ _ e14)
      · exact nly _ (e ▸ e15)
    clear s14 s15 e14 e15 n14 n15 hh13 nly
    walk_at "xx"
    refine ⟨h, d, 9, rfl, hh15, by decide, fun cnt H16 c0 c9 c16 hh16 => ?_⟩
    have kbut16 : KeepBut [h, evp, ttp] H15 H16 := WT.Chg.but c16 (by simp)
    have hv16 : Evs H16 evp ttp [] [] := by
      obtain ⟨_, hp0, _, _, _⟩ := id hh15
      obtain ⟨us', x1, x2⟩ := hv0.evs
      obtain ⟨rs', y1, y2, y3⟩ := hv0.tts
      refine ⟨⟨us', c16.at x1 n2, x2.tk (hh15.keep_tk c16.keep)⟩, ⟨rs', c16.at y1 n3, y2, fun i r bs g1 g2 => by cases g2⟩, rfl, Nat.zero_le _, fun e h => by cases h⟩
    walk_at "xx"
    refine f_range (fun i σ H' => ∃ z3 es tt, σ = [some (.ref a0), some (.ref h), some (.int bs), z3, some (.ref pl), some (.ref y), some (.ref evp), some (.ref ttp), none, none, none, none, none, none, none, none, none] ∧ HandAt H' h d ∧ KeepBut [h, evp, ttp] H15 H' ∧ TK H15 H' ∧ Evs H' evp ttp es tt ∧ es.length = i)
      ⟨_, [], [], rfl, hh16, kbut16, hh15.keep_tk c16.keep, hv16, rfl⟩ (fun i σ H17 hi p => ?_) (fun σ H17 p => ?_)
    · obtain ⟨z3, es, tt, rfl, hh17, k17, tk17, hv, les⟩ := p
      have hi : (i : Int) < cnt := by omega
      obtain ⟨us', x1, x2⟩ := hv.evs
      obtain ⟨rs', y1, y2, y3⟩ := hv.tts
      have lus := x2.length
      rw [List.length_map] at lus
      have hsame := hv.same
      have hd1 := tups_hd x2
      have rowh : ∀ (i : Nat) (r : Addr) (bs : List Bool), rs'[i]? = some r → tt[i]? = some bs → H17 r = some (.lst (bs.map V.bl)) ∧ bs.length = 3 ∧ r ≠ h ∧ r ≠ evp ∧ r ≠ ttp := fun i r bs g1 g2 => by
        obtain ⟨e1, e2⟩ := y3 i r bs g1 g2
        obtain ⟨_, _, hp1, _, _⟩ := hh17
        refine ⟨e1, e2, bl_ne e1 e2 hp1 (fun x hx => ?_), bl_ne e1 e2 x1 hd1, bl_ne e1 e2 y1 refs_hd⟩
        cases hx
        exact ⟨_, rfl⟩
      rw [Int.zero_add]
      walk_at "xx"
      refine m_ty (lst_of x1) ?_
      walk_at "xx"
      refine ⟨h, d, bs, rfl, hh17, fun ev H18 e k18 hh18 te oe => ?_⟩
      have tk18 := hh17.keep_tk k18
      have x18 := k18.at x1 n2
      have y18 := k18.at y1 n3
      walk_at "xx"
      refine m_app x18 (small1000' (by omega)) fun H19 c19 e19 => ?_
      have hh19 := hh18.chg c19 (Ne.symm n2) (Ne.symm n4)
      have y19 := c19.at y18 (Ne.symm n1)
      have tk19 := c19.tk x18
      walk_at "xx"
      refine m_ty (lst_of y19) ?_
      walk_at "xx"
      refine c_range (n := (3 : Int).toNat) (fun D j H' => HandAt H' h d ∧ D ≠ h ∧ D ≠ d ∧ KeepBut [h] H19 H' ∧ TK H19 H' ∧ ∃ bl : List Bool, H' D = some (.lst (bl.map V.bl)) ∧ bl.length = j) (fun D H' nD s' e' => ⟨hh19.same s', hand_ne hh19 nD, hand_nd hh19 nD, WT.Same.but s', s'.tk, [], e', rfl⟩) (fun D j H' hj nD p => ?_) (fun D H20 nD p => ?_)
      · obtain ⟨hh', hDh, hDd, kb', tk', bl, eD, lD⟩ := p
        walk_at "xx"
        refine ⟨rfl, ?_⟩
        walk_at "xx"
        refine ⟨h, d, 3, rfl, hh', by decide, fun r H'' r0 r1 c2 hh2 => ?_⟩
        walk_at "xx"
        refine c_out (c2.at eD hDh) (small1000 (by rw [List.length_map]; omega)) fun H3 c3 e3 => ⟨hh2.chg c3 (Ne.symm hDh) (Ne.symm hDd), hDh, hDd, fun b o hb e => ?_, ?_, bl ++ [decide (r > 0)], by rw [e3, List.map_append]; rfl, by rw [List.length_append, lD]; rfl⟩
        · have hb' : b ≠ h := fun q => hb (by rw [q]; exact List.mem_singleton_self _)
          exact c3.at (c2.at (kb' b o hb e) hb') (fun q => by rw [q, nD] at e; cases e)
        · exact tk'.trans ((hh'.keep_tk c2.keep).trans (c3.tk (c2.at eD hDh)))
      · obtain ⟨hh20, hDh, hDd, kb20, tk20, bl, eD, lD⟩ := p
        have lD : bl.length = 3 := lD
        have hm : ∀ b, b ≠ h → b ∉ [h] := fun b q z => q (List.mem_singleton.mp z)
        have y20 := kb20 _ _ (hm _ n3) y19
        have x20 := kb20 _ _ (hm _ n2) e19
        walk_at "xx"
        refine m_app y20 (small1000' (by rw [List.length_map]; omega)) fun H21 c21 e21 => ?_
        have tk21 := c21.tk y20
        have nDt : D ≠ ttp := fun q => by rw [q, y19] at nD; cases nD
        have all : TK H17 H21 := tk18.trans (tk19.trans (tk20.trans tk21))
        have row21 : ∀ (b : Addr) (xs : List V), H17 b = some (.lst xs) → b ≠ h → b ≠ evp → b ≠ ttp → H21 b = some (.lst xs) := fun b xs e q1 q2 q3 => c21.at (kb20 _ _ (hm _ q1) (c19.at (k18.at e q1) q2)) q3
        refine ⟨_, es ++ [e], tt ++ [bl], rfl, hh20.chg c21 (Ne.symm n3) (Ne.symm n5), fun b o hb e' => ?_, tk17.trans all, ⟨⟨us' ++ [ev], c21.at x20 n1, ?_⟩, ⟨rs' ++ [D], by rw [e21, List.map_append]; rfl, by rw [List.length_append, List.length_append, y2]; rfl, fun j r bs' g1 g2 => ?_⟩, by rw [List.length_append, List.length_append, hsame]; rfl, by rw [List.length_append, List.length_singleton]; omega, fun e' he => ?_⟩, by rw [List.length_append, les]; rfl⟩
        · have q1 : b ≠ h := fun q => hb (by simp [q])
          have q2 : b ≠ evp := fun q => hb (by simp [q])
          have q3 : b ≠ ttp := fun q => hb (by simp [q])
          exact c21.at (kb20 _ _ (hm _ q1) (c19.at (k18.at (k17 _ _ hb e') q1) q2)) q3
        · rw [List.map_append]
          exact tpSnoc (x2.tk all) (te.tk (tk19.trans (tk20.trans tk21)))
        · by_cases hj : j < rs'.length
          · rw [List.getElem?_append_left hj] at g1
            rw [List.getElem?_append_left (by omega)] at g2
            obtain ⟨w1, w2, w3, w4, w5⟩ := rowh j r bs' g1 g2
            exact ⟨row21 _ _ w1 w3 w4 w5, w2⟩
          · have h0 := (List.getElem?_eq_some_iff.mp g1).1
            rw [List.length_append, List.length_singleton] at h0
            have : j = rs'.length := by omega
            subst this
            rw [List.getElem?_append_right (Nat.le_refl _), Nat.sub_self] at g1
            rw [y2, List.getElem?_append_right (Nat.le_refl _), Nat.sub_self] at g2
            cases g1
            cases g2
            exact ⟨c21.at eD nDt, lD⟩
        · rcases List.mem_append.mp he with he | he
          · exact hv.ok e' he
          · rw [List.mem_singleton.mp he]
            exact oe
    obtain ⟨z3, es, tt, rfl, hh17, k17, tk17, hv, les⟩ := p
    have wy := WatAt.mk (k17 _ _ nyl wy.ins) (k17 _ _ (fun hm => by
      simp only [List.mem_cons, List.not_mem_nil, or_false] at hm
      obtain ⟨_, _, e1, _, _⟩ := hh15
      obtain ⟨_, x1, _⟩ := hv0.evs
      obtain ⟨_, y1, _⟩ := hv0.tts
      rcases hm with e | e | e
      · have := wy.place
        rw [e, e1] at this
        cases this
      · have := wy.place
        rw [e, x1] at this
        cases this
      · have := wy.place
        rw [e, y1] at this
        cases this) wy.place) (wy.atoms.tk tk17) wy.ok wy.few
    have epl := tk17 _ _ ep13
    have tpl := tp13.tk tk17
    clear k17 tk17 hv0 hv16 kbut16 hh15 hh16 c16 c0 ep13 tp13 nyl
    walk_at "xx"
    refine k_make fun x dx H18 nx nd2 _ s18 e18 _ => ?_
    refine ⟨x, dx, pl, rfl, e18, fun H19 k19 e19 => ⟨rfl, ?_⟩⟩
    have S19 : Same H17 H19 := fun b o e => k19 b o (ne_of_none e nx) (s18 _ _ e)
    have wx : WatAt K H19 x dx pl us as 0 := ⟨e19, S19 _ _ epl, tpl.tk S19.tk, oas, by omega⟩
    have hxy : x ≠ y := fun e => by
      have := wy.ins
      rw [← e, nx] at this
      cases this
    have wy := wy.same S19
    have hv := hv.sm S19
    have hh19 := hh17.same S19
    clear S19 k19 s18 e18 nd2 epl tpl hh17
    obtain ⟨G, hG⟩ : ∃ G, G = gr (mtOf as es tt) as.length := ⟨_, rfl⟩
    have hG0 : G 0 = 0 := by rw [hG]; rfl
    have xh : x ≠ h := fun e => by
      obtain ⟨_, _, e1, _, _⟩ := hh19
      rw [← e, wx.ins] at e1
      cases e1
    have yh : y ≠ h := fun e => by
      obtain ⟨_, _, e1, _, _⟩ := hh19
      rw [← e, wy.ins] at e1
      cases e1
    have tkb : ∀ {H'}, KeepBut [h, x, y] H19 H' → TK H19 H' := fun {H'} k => k.tk fun a ha => by
      simp only [List.mem_cons, List.not_mem_nil, or_false] at ha
      obtain ⟨_, _, e1, _, _⟩ := hh19
      rcases ha with rfl | rfl | rfl
      · exact ⟨_, e1, rfl⟩
      · exact ⟨_, wx.ins, rfl⟩
      · exact ⟨_, wy.ins, rfl⟩
    have hvk : ∀ {H'}, KeepBut [h, x, y] H19 H' → Evs H' evp ttp es tt := fun {H'} k => by
      obtain ⟨us', x1, x2⟩ := hv.evs
      obtain ⟨rs', y1, y2, y3⟩ := hv.tts
      have nin : ∀ (b : Addr) (xs : List V), H19 b = some (.lst xs) → b ≠ h → b ∉ [h, x, y] := fun b xs e q ha => by
        simp only [List.mem_cons, List.not_mem_nil, or_false] at ha
        rcases ha with rfl | rfl | rfl
        · exact q rfl
        · rw [wx.ins] at e
          cases e
        · rw [wy.ins] at e
          cases e
      refine ⟨⟨us', k _ _ (nin _ _ x1 n2) x1, x2.tk (tkb k)⟩, ⟨rs', k _ _ (nin _ _ y1 n3) y1, y2, fun i r bs g1 g2 => ?_⟩, hv.same, hv.few, hv.ok⟩
      obtain ⟨e1, e2⟩ := y3 i r bs g1 g2
      refine ⟨k _ _ (nin _ _ e1 ?_) e1, e2⟩
      obtain ⟨_, _, hp1, _, _⟩ := hh19
      exact bl_ne e1 e2 hp1 fun x hx => by
        cases hx
        exact ⟨_, rfl⟩
    have epl := wx.place
    have tpl := wx.atoms
    have hx := wx.ins
    walk_at "xx"
    obtain ⟨ue, x1, x2⟩ := hv.evs
    have lue := x2.length
    rw [List.length_map] at lue
    refine b_lenL (lst_of x1) ?_
    rw [lue]
    have hfew := hv.few
    walk_at "xx"
    rw [Int.toNat_natCast]
    clear hx
    refine f_range (fun k σ H' => ∃ z3 z10 z11 z12 z13 z14 z15, σ = [some (.ref a0), some (.ref h), some (.int bs), z3, some (.ref pl), some (.ref y), some (.ref evp), some (.ref ttp), some (.ref x), some (.int (G k)), z10, z11, z12, z13, z14, z15, none] ∧ KeepBut [h, x, y] H19 H' ∧ HandAt H' h d ∧
        WatAt K H' x dx pl us as (G k) ∧ (∃ p2, WatAt K H' y dy pl2 [v1, v2] [a1, a2] p2) ∧ (0 < as.length → G k < as.length))
      ⟨_, _, _, _, _, _, _, by rw [hG0]; rfl, KeepBut.refl, hh19, by rw [hG0]; exact wx, ⟨_, wy⟩, fun h => by rw [hG0]; exact h⟩ (fun k σ H20 hk p => ?_) (fun σ H20 p => ?_)
    · obtain ⟨z3, z10, z11, z12, z13, z14, z15, rfl, kb, hh, wx, ⟨p2, wy⟩, hlt⟩ := p
      have hv := hvk kb
      have epl' := wx.place
      have tpl' := wx.atoms
      rw [Int.zero_add]
      walk_at "xx"
      refine ix_ev hv hk fun ev tev oev => ?_
      walk_at "xx"
      refine ⟨pl, us, as, G k, ev, evAt es k, rfl, epl', tpl', tev, oev, fun dv H21 s21 tdv => ?_⟩
      have kb := k3 kb (WT.Same.but (A := [h]) s21) (by simp)
      have hh := hh.same s21
      have wx := wx.same s21
      have wy := wy.same s21
      have hv := hvk kb
      clear epl' tpl' s21 tev
      walk_at "xx"
      refine ix_tt hv hk fun tr er lr => ?_
      walk_at "xx"
      refine ix_bl (j := 2) er (by omega) ?_
      walk_at "xx"
      refine s_cut (fun σ' H' => σ' = [some (.ref a0), some (.ref h), some (.int bs), some (.int k), some (.ref pl), some (.ref y), some (.ref evp), some (.ref ttp), some (.ref x), some (.int (G k)), some (dv), some (.bl (tvOf as es tt (G k) k)), z12, z13, z14, z15, none] ∧ H' = H21) ?_ (fun σ' H' p => ?_)
      · walk_at "xx"
        unfold tvOf
        cases hw : wanted as (G k) (evAt es k) with
        | none =>
          rw [hw] at tdv
          cases (show dv = .non by cases (show Tp H21 dv .none from tdv); rfl)
          walk_at "xx"
          exact ⟨rfl, rfl⟩
        | some D =>
          rw [hw] at tdv
          obtain ⟨hp, _, ds', rfl⟩ := wanted_sh hw oas
          obtain ⟨b, vs, rfl, _, _⟩ := tpL (show Tp H21 dv (.tuple ds') from tdv)
          walk_at "xx"
          refine ix_tt hv hk fun tr er lr => ?_
          walk_at "xx"
          refine ix_bl er (by omega) ?_
          walk_at "xx"
          exact ⟨rfl, rfl⟩
      obtain ⟨rfl, rfl⟩ := p
      clear er lr tr
      have tdv0 := tdv
      have good : Good K H19 H' h d x y dx dy pl pl2 us [v1, v2] as [a1, a2] (G k) p2 := ⟨kb, hh, wx, wy⟩
      clear kb hh wx wy hv
      have step : ∀ {Ha Hb : Hp} {pa pb : Nat}, Good K H19 Ha h d x y dx dy pl pl2 us [v1, v2] as [a1, a2] pa pb → Chg h Ha Hb → HandAt Hb h d → Good K H19 Hb h d x y dx dy pl pl2 us [v1, v2] as [a1, a2] pa pb ∧ TK Ha Hb := fun {Ha Hb pa pb} g c hb => by
        have t := g.hand.keep_tk c.keep
        exact ⟨⟨k3 g.kb (WT.Chg.but (A := [h]) c (by simp)) (by simp), hb, watk g.wx (WT.Chg.but (A := [h]) c (by simp)) xh t, watk g.wy (WT.Chg.but (A := [h]) c (by simp)) yh t⟩, t⟩
      refine s_cut (fun σ' H22 => ∃ z12, σ' = [some (.ref a0), some (.ref h), some (.int bs), some (.int k), some (.ref pl), some (.ref y), some (.ref evp), some (.ref ttp), some (.ref x), some (.int (G k)), some (dv), some (.bl (tvOf as es tt (G k) k)), z12, z13, z14, z15, none] ∧ Good K H19 H22 h d x y dx dy pl pl2 us [v1, v2] as [a1, a2] (G k) p2) ?_ (fun σ' H22 p => ?_)
      · walk_at "xx"
        refine ⟨h, d, 3, rfl, good.hand, by decide, fun r H22 r0 r1 c22 hh22 => ?_⟩
        obtain ⟨good, tk22⟩ := step good c22 hh22
        have tdv := tdv.tk tk22
        clear c22 hh22 tk22
        walk_at "xx"
        refine iteD (fun e => ?_) (fun e => ?_)
        · have hv := hvk good.kb
          have hx := good.wx.ins
          walk_at "xx"
          refine ix_ev hv hk fun ev tev oev => ?_
          walk_at "xx"
          refine ⟨x, dx, pl, us, as, G k, ev, evAt es k, rfl, good.wx, tev, oev, fun fv H23 s23 tfv => ?_⟩
          have good := good.same s23
          have tdv := tdv.tk s23.tk
          clear hv hx tev s23
          cases hw : wanted as (G k) (evAt es k) with
          | none =>
            rw [hw] at tdv tfv
            cases (show dv = .non by cases (show Tp H23 dv .none from tdv); rfl)
            cases (show fv = .non by cases (show Tp H23 fv .none from tfv); rfl)
            walk_at "xx"
            exact ⟨_, rfl, good⟩
          | some D =>
            rw [hw] at tdv tfv
            obtain ⟨hp, hsh, ds', rfl⟩ := wanted_sh hw oas
            obtain ⟨b1, vs1, rfl, eb1, _⟩ := tpL (show Tp H23 dv (.tuple ds') from tdv)
            obtain ⟨b2, vs2, rfl, eb2, _⟩ := tpL (show Tp H23 fv (.tuple ds') from tfv)
            walk_at "xx"
            refine ne_same (d := .tuple ds') (show Tp H23 _ _ from tfv).dp (show Tp H23 _ _ from tdv).dp hsh ?_
            walk_at "xx"
            exact ⟨_, rfl, good⟩
        · walk_at "xx"
          exact ⟨_, rfl, good⟩
      obtain ⟨z12', rfl, good⟩ := p
      clear tdv tdv0
      refine s_cut (fun σ' H23 => σ' = [some (.ref a0), some (.ref h), some (.int bs), some (.int k), some (.ref pl), some (.ref y), some (.ref evp), some (.ref ttp), some (.ref x), some (.int (G k)), some (dv), some (.bl (tvOf as es tt (G k) k)), z12', z13, z14, z15, none] ∧ Good K H19 H23 h d x y dx dy pl pl2 us [v1, v2] as [a1, a2] (G k) p2) ?_ (fun σ' H23 p => ?_)
      · walk_at "xx"
        refine ⟨h, d, 2, rfl, good.hand, by decide, fun r H23 r0 r1 c23 hh23 => ?_⟩
        obtain ⟨good, tk23⟩ := step good c23 hh23
        clear c23 hh23 tk23
        walk_at "xx"
        refine iteI (fun e => ?_) (fun e => ?_)
        · have hv := hvk good.kb
          have hx := good.wx.ins
          obtain ⟨ue', x1', x2'⟩ := id hv.evs
          have lue' := x2'.length
          rw [List.length_map] at lue'
          walk_at "xx"
          refine b_lenL (lst_of x1') ?_
          rw [lue']
          walk_at "xx"
          refine ⟨h, d, es.length, rfl, good.hand, by omega, fun r2 H24 r20 r21 c24 hh24 => ?_⟩
          obtain ⟨good, tk24⟩ := step good c24 hh24
          have hv := hvk good.kb
          have hx := good.wx.ins
          clear c24 hh24 tk24 x1' x2' lue'
          obtain ⟨r2, rfl⟩ : ∃ m : Nat, r2 = m := ⟨r2.toNat, by omega⟩
          refine ix_ev hv (by omega) fun ev tev oev => ?_
          walk_at "xx"
          refine ⟨x, dx, pl, us, as, G k, ev, evAt es r2, rfl, good.wx, tev, oev, fun fv H25 s25 tfv => ?_⟩
          walk_at "xx"
          exact ⟨rfl, good.same s25⟩
        · walk_at "xx"
          exact ⟨rfl, good⟩
      obtain ⟨rfl, good⟩ := p
      have hv := hvk good.kb
      have hx := good.wx.ins
      walk_at "xx"
      refine ix_ev hv hk fun ev tev oev => ?_
      walk_at "xx"
      refine see_call good.wx tev oev fun H24 kx wx => ?_
      have tk24 := tk_ins kx hx
      have good : Good K H19 H24 h d x y dx dy pl pl2 us [v1, v2] as [a1, a2] _ p2 := ⟨k3 good.kb kx (by simp), handk good.hand kx hx, wx, watk good.wy kx (Ne.symm hxy) tk24⟩
      rw [step_mt] at good ⊢
      have hGs : (if (decide (G k < as.length) && mtOf as es tt (G k) k) = true then G k + 1 else G k) = G (k + 1) := by
        rw [hG]
        rfl
      rw [hGs] at good
      generalize hB : (decide (G k < as.length) && mtOf as es tt (G k) k) = B at hGs
      clear kx wx tk24 hv hx tev
      refine s_cut (fun σ' H25 => ∃ p3, σ' = [some (.ref a0), some (.ref h), some (.int bs), some (.int k), some (.ref pl), some (.ref y), some (.ref evp), some (.ref ttp), some (.ref x), some (.int (G k)), some (dv), some (.bl (tvOf as es tt (G k) k)), z12', some (.bl (B && decide (G k + 1 = as.length))), z14, z15, none] ∧ Good K H19 H25 h d x y dx dy pl pl2 us [v1, v2] as [a1, a2] (G (k + 1)) p3) ?_ (fun σ' H25 p => ?_)
      · have hy := good.wy.ins
        have hv := hvk good.kb
        walk_at "xx"
        refine iteD (fun e => ?_) (fun e => ?_)
        · walk_at "xx"
          refine ix_ev hv hk fun ev tev oev => ?_
          walk_at "xx"
          refine ix_tt hv hk fun tr er lr => ?_
          walk_at "xx"
          refine ix_bl (j := 0) er (by omega) ?_
          walk_at "xx"
          refine see_call good.wy tev oev fun H25 ky wy => ?_
          have tk25 := tk_ins ky hy
          walk_at "xx"
          exact ⟨_, rfl, k3 good.kb ky (by simp), handk good.hand ky hy, watk good.wx ky hxy tk25, wy⟩
        · walk_at "xx"
          exact ⟨_, rfl, good⟩
      obtain ⟨p3, rfl, good⟩ := p
      have gs := gr_step (mtOf as es tt) as.length k
      rw [← hG] at gs
      have gle := gr_le (mtOf as es tt) as.length (k + 1)
      rw [← hG] at gle
      have epl' := good.wx.place
      have tpl' := good.wx.atoms
      have lus' := tpl'.length
      rw [List.length_map] at lus'
      have hv := hvk good.kb
      walk_at "xx"
      refine b_lenT (tup_of epl') ?_
      rw [lus']
      walk_at "xx"
      refine k_r2 (by omega) ?_
      rw [show ((as.length : Int) + 1 - 1).toNat = as.length by omega]
      refine f_range (fun i σ H' => ∃ z14, σ = [some (.ref a0), some (.ref h), some (.int bs), some (.int k), some (.ref pl), some (.ref y), some (.ref evp), some (.ref ttp), some (.ref x), some (.int (max (G k) (min i (G (k + 1)) : Nat) : Nat)), some (dv), some (.bl (tvOf as es tt (G k) k)), z12', some (.bl (B && decide (G k + 1 = as.length))), z14, z15, none] ∧ Same H25 H')
        ⟨_, by rw [show max (G k) (min 0 (G (k + 1))) = G k by omega], Same.refl _⟩ (fun i σ H26 hi p => ?_) (fun σ H26 p => ?_)
      · obtain ⟨z14, rfl, s26⟩ := p
        walk_at "xx"
        refine ⟨pl, evp, ttp, us, as, es, tt, 1 + i, k + 1, by rw [show (((1 + i : Nat) : Int)) = 1 + (i : Int) by omega, show (((k + 1 : Nat) : Int)) = (k : Int) + 1 by omega]; rfl, s26 _ _ epl', tpl'.tk s26.tk, oas, hv.sm s26, by omega, la3, by omega, fun H27 s27 => ?_⟩
        have hmem := mem_lens (mt := mtOf as es tt) (len := as.length) (atoms := 1 + i) (by omega) (k + 1) (1 + i)
        rw [← hG] at hmem
        by_cases hc : 1 + i ≤ G (k + 1)
        · rw [decide_eq_true (hmem.mpr ⟨Nat.le_refl _, hc⟩)]
          walk_at "xx"
          refine ⟨some (.int (1 + (i : Int))), ?_, s26.trans s27⟩
          have : max (((max (G k) (min i (G (k + 1))) : Nat) : Int)) (1 + (i : Int)) = ((max (G k) (min (i + 1) (G (k + 1))) : Nat) : Int) := by omega
          rw [← this]
          rfl
        · rw [decide_eq_false (fun h => hc (hmem.mp h).2)]
          walk_at "xx"
          refine ⟨some (.int (1 + (i : Int))), ?_, s26.trans s27⟩
          rw [show max (G k) (min (i + 1) (G (k + 1))) = max (G k) (min i (G (k + 1))) by omega]
          rfl
      · obtain ⟨z14, rfl, s26⟩ := p
        rw [show max (G k) (min as.length (G (k + 1))) = G (k + 1) by omega]
        have good := good.same s26
        have hx := good.wx.ins
        have epl' := good.wx.place
        walk_at "xx"
        refine iteNI (fun e => absurd rfl e) (fun _ => ?_)
        walk_at "xx"
        refine b_lenT (tup_of epl') ?_
        rw [lus']
        walk_at "xx"
        have hwhole : (B && decide (G k + 1 = as.length)) = (decide (0 < as.length) && decide (G (k + 1) = as.length)) := by
          cases B with
          | true =>
            have : G (k + 1) = G k + 1 := hGs.symm.trans (if_pos rfl)
            rw [this, Bool.true_and]
            by_cases h : G k + 1 = as.length
            · rw [decide_eq_true h, decide_eq_true (show 0 < as.length by omega)]
              rfl
            · rw [decide_eq_false h, Bool.and_false]
          | false =>
            have : G (k + 1) = G k := hGs.symm.trans (if_neg (by decide))
            rw [this, Bool.false_and]
            by_cases h : 0 < as.length
            · rw [decide_eq_false (show ¬ G k = as.length by have := hlt h; omega), Bool.and_false]
            · rw [decide_eq_false h, Bool.false_and]
        rw [hwhole]
        have goon : (0 < as.length → G (k + 1) < as.length) → KeepBut [h, x, y] H19 H26 ∧ HandAt H26 h d ∧ WatAt K H26 x dx pl us as (G (k + 1)) ∧ (∃ p2, WatAt K H26 y dy pl2 [v1, v2] [a1, a2] p2) ∧ (0 < as.length → G (k + 1) < as.length) := fun hf => ⟨good.kb, good.hand, good.wx, ⟨_, good.wy⟩, hf⟩
        by_cases h0 : 0 < as.length
        · rw [decide_eq_true (show (0 : Int) < as.length by omega), decide_eq_true h0, Bool.true_and]
          walk_at "xx"
          refine b_lenT (tup_of epl') ?_
          rw [lus']
          refine o_eqS rfl ?_
          rw [dI, show decide (((G (k + 1) : Nat) : Int) = (as.length : Int)) = decide (G (k + 1) = as.length) by rw [decide_eq_decide]; omega]
          by_cases hf : G (k + 1) = as.length
          · rw [decide_eq_true hf]
            walk_at "xx"
            exact q _
          · rw [decide_eq_false hf]
            walk_at "xx"
            exact ⟨_, _, _, _, _, _, _, rfl, goon fun _ => by omega⟩
        · rw [decide_eq_false (show ¬ (0 : Int) < as.length by omega), decide_eq_false h0, Bool.false_and]
          walk_at "xx"
          exact ⟨_, _, _, _, _, _, _, rfl, goon fun z => absurd z h0⟩
    · obtain ⟨z3, z10, z11, z12, z13, z14, z15, rfl, _⟩ := p
      walk_at "xx"
      exact q _
end
end K10
open PySem PySem.W PySem.Calls PyProof.Rows
set_option maxHeartbeats 0 in
theorem PySem.Challenge.cw_wayorring_k10_watch_for_a_place_holds : PySem.Challenge.rw_wayorring_k10_watch_for_a_place.Holds := by
  w_on; o_law
  refine HandSHeadRun.head_any (r := OpenLaw.row PySem.Challenge.rw_wayorring_k10_watch_for_a_place) (q := view (OpenLaw.row PySem.Challenge.rw_wayorring_k10_watch_for_a_place).prog [11]) (H := K10.hk) (ob := K10.ob) (M := 20000) (loose := K10.loose) (d := HandSHeadRun.topDef (OpenLaw.row PySem.Challenge.rw_wayorring_k10_watch_for_a_place).prog 11) (kwd := []) K10.ob_eq
    (by kernel_rfl) (fun s => by kernel_rfl) K10.run (by kernel_rfl) (by kernel_rfl) (by kernel_rfl) (by rfl) (by first | assumption | decide +kernel) (by decide +kernel) ⟨rfl, rfl, rfl, rfl, rfl, by decide +kernel⟩ ?hw ?hc
  case hw => w_witness2
  case hc =>
    refine L2.walk_ofE (l := PySem.Challenge.rw_wayorring_k10_watch_for_a_place) (n := 63) (k := 5) (x := "script") (CX := L2.CX0) rfl (by decide) (by kernel_rfl) ⟨rfl, by decide, by decide⟩ ?F (fun _ _ _ _ z => z)
    intro w mg fa h Y G hmg0
    obtain ⟨K, KX, c⟩ := Y
    have hmg : mg ("law" : PySem.Str) = some (.ref fa) := by
      have e : (HandSHeadRun.topDef (OpenLaw.row PySem.Challenge.rw_wayorring_k10_watch_for_a_place).prog 11).name = ("law" : PySem.Str) := by kernel_rfl
      rw [← e]
      exact hmg0
    have T := K10.tx_of KX G c
    obtain ⟨f, fd, F, e2⟩ := T.d_law.ex
    have e3 := hmg.symm.trans e2
    cases e3
    exact ⟨K, fd, K10.spLaw K, KX, fun s v => L2.FunD.bindsA (ps := ["script"]) F (fun _ _ _ _ _ _ us hl => match us, hl with | [_], _ => rfl) s [v] rfl, fun H a ns hl _ hS => ⟨a, ns, rfl, hS, hl, fun _ => rfl⟩, fun base _ _ => K10.ok_law T F⟩

