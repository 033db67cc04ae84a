import PyProof.Rows.All
import Wide.All
import OpenK.AllK
import Wide.FinOn
import KE.KStateDown
import HandS.ForMost
import HandS.IsInst
import HandS.Codes
import HandS.Exc
import HandS.Defaults
import HandS.Head0
import HandS.Head1
import HandS.Head2
import HandS.HeadEnd
import HandS.HeadHook1
import HandS.HeadHook2
import HandS.HeadHook3
import HandS.HeadHook4
import HandS.FStr
import HandS.Dict
import HandS.More
import Wide.Once
import HandS.Conv
import HandS.Wide
import HandS.Style
import HandS.Star
import HandS.TupAny
import PyProof.ReprRoads
import PyProof.ReprLen
import PyProof.P3Eq
import HandS.Walk
import HandS.Iter
import PySem.Challenge.RW_wayorring_k16_bounds_are_closed
set_option Elab.async false
set_option linter.all false
set_option maxRecDepth 100000
set_option maxHeartbeats 8000000
/-! Wy: rules that take operands of several kinds, and steps. -/
namespace Wy
open PySem PySem.Spec PyProof.Rows L2
section
variable {X : Cx}
theorem CallR.or {f : Value} {r r' : List V → Hp → VK → Prop} (h : CallR X f r) (h' : CallR X f r') : CallR X f (fun xs H Q => r xs H Q ∨ r' xs H Q) := by
  intro pins s σ H xs us Q I rv q
  rcases q with q | q
  · exact h pins s σ H xs us Q I rv q
  · exact h' pins s σ H xs us Q I rv q
/-- k times a text -/
def repS (z : Str) (k : Int) : Str := ⟨(List.replicate k.toNat z.cps.toList).flatten.toArray⟩
theorem foldl_rep (a : Array Nat) : ∀ (n : Nat) (acc : Array Nat), ((List.replicate n a).foldl (· ++ ·) acc) = (acc.toList ++ (List.replicate n a.toList).flatten).toArray
  | 0, acc => by simp
  | n + 1, acc => by
    rw [List.replicate_succ, List.foldl_cons, foldl_rep a n, List.replicate_succ, List.flatten_cons]
    simp
theorem repS_eq (z : Str) (n : Int) : (⟨(List.replicate n.toNat z.cps).foldl (· ++ ·) #[]⟩ : Str) = repS z n := by
  unfold repS
  rw [foldl_rep]
  simp
def rMulSI : R2 := fun x y H Q => ∃ z k, x = .str z ∧ y = .int k ∧ 0 ≤ k ∧ k ≤ 1000 ∧ z.length ≤ 1000 ∧ Q (.str (repS z k)) H
theorem op_mulSI : OpR X (binaryOp .Mult) rMulSI := by
  intro pins s σ H x y v u Q I rx ry h
  obtain ⟨z, k, rfl, rfl, h0, h1, h2, q⟩ := h
  obtain ⟨t, rfl⟩ := rx
  obtain ⟨t', rfl⟩ := ry
  have hs : sizeLine = 16777216 := sizeLine_eq
  refine PySem.P.mul_str ?_ (fun a b => ?_) (fun a b => ?_) ?_
  · rw [decide_eq_false (by omega), decide_eq_false (by omega)]
    rfl
  · have h3 : (1000 : Int) ≤ (2 ^ 63 - 1) / k := (Int.le_ediv_iff_mul_le (by omega)).mpr (by omega)
    omega
  · unfold Builtin.Str.tooLong
    rw [decide_eq_false_iff_not]
    have h4 : z.length * k.toNat ≤ 1000 * 1000 := Nat.mul_le_mul h2 (by omega)
    omega
  · by_cases a : k < 1
    · have ek : k = 0 := by omega
      subst ek
      rw [if_pos a]
      have e : repS z 0 = Str.empty := rfl
      rw [e] at q
      exact ⟨by decide, .str Str.empty, H, I.tok _, ⟨_, rfl⟩, q⟩
    · rw [if_neg a]
      by_cases b : (k == 1 || z.length == 0) = true
      · rw [if_pos b]
        have e : repS z k = z := by
          rcases Bool.or_eq_true_iff.mp b with b | b
          · have e1 : k = 1 := by simpa using b
            subst e1
            unfold repS
            simp
          · have e1 : z.length = 0 := by simpa using b
            have e2 : z.cps = #[] := by simpa [Str.length] using e1
            obtain ⟨c⟩ := z
            unfold repS
            simp at e2
            subst e2
            simp
        rw [e] at q
        exact ⟨.str z, H, I, ⟨_, rfl⟩, q⟩
      · rw [if_neg b, repS_eq]
        refine ⟨?_, .str (repS z k), H, I.tok _, ⟨_, rfl⟩, q⟩
        have h4 : (repS z k).length = k.toNat * z.length := by
          unfold repS
          simp [Str.length, List.length_flatten, List.map_replicate, List.sum_replicate_nat]
        rw [h4]
        have h5 : k.toNat * z.length ≤ 1000 * 1000 := Nat.mul_le_mul (by omega) h2
        omega
/-- + of two ints, two texts, two lists -/
def rAddS : R2 := fun x y H Q => ∃ i j, x = .str i ∧ y = .str j ∧ i.length + j.length ≤ sizeLine ∧ Q (.str (i ++ j)) H
def rAddI : R2 := rI0 fun i j => .int (i + j)
def rAdd3 : R2 := fun x y H Q => rAddI x y H Q ∨ rAddS x y H Q ∨ rCat x y H Q
theorem op_add3 : OpR X (binaryOp .Add) rAdd3 := op_add.or (op_add_str.or op_cat)
def rMul2 : R2 := fun x y H Q => rI CMul (fun i j => .int (i * j)) x y H Q ∨ rMulSI x y H Q
theorem op_mul2 : OpR X (binaryOp .Mult) rMul2 := op_mul.or op_mulSI
/-- == -/
def rEq2 (K : PySem.W.Frag) : R2 := fun x y H Q => rEq x y H Q ∨ rEqD K x y H Q
theorem op_eq2 (hu : X.A.units + 64 < cLine) : OpR X (compareOp .Eq) (rEq2 X.K) := op_eq.or (op_eqD hu)
def rNe2 (K : PySem.W.Frag) : R2 := fun x y H Q => rNe x y H Q ∨ rNeD K x y H Q
theorem op_ne2 (hu : X.A.units + 64 < cLine) : OpR X (compareOp .NotEq) (rNe2 X.K) := op_ne.or (op_neD hu)
/-- in: a sign in a text; a flat item in a list or tuple -/
def rInS : R2 := fun x y H Q => ∃ (c : Nat) (z : Str), x = .str ⟨#[c]⟩ ∧ y = .str z ∧ Q (.bl (decide (c ∈ z.cps.toList))) H
def rNiS : R2 := fun x y H Q => ∃ (c : Nat) (z : Str), x = .str ⟨#[c]⟩ ∧ y = .str z ∧ Q (.bl (!decide (c ∈ z.cps.toList))) H
def rIn2 (K : PySem.W.Frag) : R2 := fun x y H Q => rInS x y H Q ∨ rIn K false x y H Q
def rNi2 (K : PySem.W.Frag) : R2 := fun x y H Q => rNiS x y H Q ∨ rIn K true x y H Q
theorem op_in2 : OpR X (compareOp .In) (rIn2 X.K) := op_in_sign.or op_in_seq
theorem op_ni2 : OpR X (compareOp .NotIn) (rNi2 X.K) := op_notIn_sign.or op_notIn_seq
def rSl2 (K : PySem.W.Frag) : V → Option Int → Option Int → Hp → VK → Prop := fun x lo hi H Q => rSlS x lo hi H Q ∨ rSlL K x lo hi H Q
theorem sl_2 : SlR X (rSl2 X.K) := sl_str.or sl_list
def rInt : List V → Hp → VK → Prop := fun xs H Q => ((∃ i, xs = [.int i] ∧ Q (.int i) H) ∨ ∃ k, xs = [.bl k] ∧ Q (.int (if k then 1 else 0)) H) ∨ ∃ a n, xs = [.str a] ∧ PySem.intText? a = some n ∧ a.length ≤ 640 ∧ Q (.int n) H
theorem call_int2 : CallR X (.type "int") rInt := CallR.or call_int1 call_int_str
def rAbs : List V → Hp → VK → Prop := fun xs H Q => ∃ i, xs = [.int i] ∧ Q (.int (if i < 0 then -i else i)) H
theorem call_abs2 : CallR X (.builtin "abs") rAbs := call_abs
def rLn (K : PySem.W.Frag) : List V → Hp → VK → Prop := fun xs H Q => ∃ x n, xs = [x] ∧ LenV K x H n ∧ Q (.int n) H
theorem call_len2 : CallR X (.builtin "len") (rLn X.K) := call_len
def tTr (K : PySem.W.Frag) (ta : TE) : TT := fun σ H Q => ta σ H fun x H' => ∃ k, TruV K x H' k ∧ Q k H'
theorem pt_tr {e : Expr} {te : TE} (h : PE X e te) (he : ∀ whole, isTrue e X.env whole = (do let v ← whole; standAt e.pos; holding [v] (truthy v)) := by intro _; rfl) : PT X e (tTr X.K te) := pt_truth h he
end

/-! ### what a heap keeps -/
/-- only at l -/
def Chg (l : Addr) (H H' : Hp) : Prop := ∀ b, b ≠ l → H' b = H b
theorem same_new {H : Hp} {p : Addr} {o : HO} (h : H p = none) : Same H (upd H p o) := fun b x e => by
  rw [upd_ne (ne_of_none e h)]
  exact e
theorem chg_upd {H : Hp} {p : Addr} {o : HO} : Chg p H (upd H p o) := fun b e => by rw [upd_ne e]
theorem Chg.same {l : Addr} {H0 H H' : Hp} (c : Chg l H H') (s : Same H0 H) (n : H0 l = none) : Same H0 H' := fun b o e => by
  rw [c b (ne_of_none e n)]
  exact s b o e
theorem Chg.at {l b : Addr} {H H' : Hp} {o : HO} (c : Chg l H H') (e : H b = some o) (n : b ≠ l) : H' b = some o := by
  rw [c b n]
  exact e
theorem new_same {H : Hp} {o : HO} {Q : VK} (h : ∀ p H2, H p = none → Same H H2 → H2 p = some o → Q (.ref p) H2) : ∀ p, H p = none → Q (.ref p) (upd H p o) :=
  fun p np => h p _ np (same_new np) upd_same
theorem lst_of {K : PySem.W.Frag} {H : Hp} {a : Addr} {xs : List V} (h : H a = some (.lst xs)) : SqL K H a xs := .inl (.inl h)
theorem tup_of {K : PySem.W.Frag} {H : Hp} {a : Addr} {xs : List V} (h : H a = some (.tup xs)) : SqT K H a xs := .inl (.inl h)
theorem seqT {K : PySem.W.Frag} {H H' : Hp} {a : Addr} {xs : List V} (e : Same H H') (h : SqT K H a xs) : SqT K H' a xs := by
  rcases h with (h | ⟨o, h⟩) | h
  · exact .inl (.inl (e _ _ h))
  · exact .inl (.inr ⟨o, e _ _ h⟩)
  · exact .inr h
/-! ### steps -/
def KBl (x : V) (H : Hp) (QT : Bool → Hp → Prop) : Prop := ∃ k, x = .bl k ∧ QT k H
def KTr (K : PySem.W.Frag) (x : V) (H : Hp) (QT : Bool → Hp → Prop) : Prop := ∃ k, TruV K x H k ∧ QT k H
def KInt (x : V) (H : Hp) (QO : Option Int → Hp → Prop) : Prop := ∃ i, x = .int i ∧ QO (some i) H
def KR1 (vs : List V) (H : Hp) (R : It → Hp → Prop) : Prop := ∃ j : Int, vs = [.int j] ∧ -(2 ^ 62) ≤ j ∧ j < 2 ^ 62 ∧ R (Itr 0 j.toNat) H
def KR2 (vs : List V) (H : Hp) (R : It → Hp → Prop) : Prop := ∃ i j : Int, vs = [.int i, .int j] ∧ (-(2 ^ 62) ≤ i ∧ i < 2 ^ 62 ∧ -(2 ^ 62) ≤ j ∧ j < 2 ^ 62) ∧ R (Itr i (j - i).toNat) H
def KL (K : PySem.W.Frag) (x : V) (H : Hp) (R : It → Hp → Prop) : Prop := ∃ a, x = .ref a ∧ (∃ xs, SqL K H a xs) ∧ R (Itl K a) H
def KT (K : PySem.W.Frag) (x : V) (H : Hp) (R : It → Hp → Prop) : Prop := ∃ a, x = .ref a ∧ (∃ xs, SqT K H a xs) ∧ R (Itt K a) H
def KS (x : V) (H : Hp) (R : It → Hp → Prop) : Prop := ∃ z, x = .str z ∧ R (Its z) H
def NewO (n : Nat) (o : HO) (H : Hp) (Q : VK) : Prop := n ≤ sizeLine ∧ ∀ p, H p = none → Q (.ref p) (upd H p o)
def COut (D : Addr) (y : V) (H : Hp) (N : Hp → Prop) : Prop := ∃ acc, H D = some (.lst acc) ∧ acc.length < sizeLine ∧ N (upd H D (.lst (acc ++ [y])))
def KWh (W : Nat → L2.St → Hp → Prop) (m : Nat) (t : TS) (D : Ends) (σ : L2.St) (H : Hp) : Prop := ∃ N : L2.St → Hp → Prop, (∀ σ' H', N σ' H' → ∃ m', m' < m ∧ W m' σ' H') ∧ t ⟨N, D.rt, D.nx, N⟩ σ H
section
variable {K : PySem.W.Frag} {σ : L2.St} {H : Hp} {Q : VK} {QT : Bool → Hp → Prop} {D : Ends} {t u : TS} {c c' : TT} {te ta tb : TE} {g : TG} {v x y : V} {i : Nat} {b : Bool} {QA : List V → Hp → Prop}
theorem s_seq (h : t ⟨u D, D.rt, D.bk, D.ct⟩ σ H) : tSeq t u D σ H := h
theorem s_asg (h : te σ H fun x H1 => g x σ H1 D.nx) : tAsg te g D σ H := h
theorem g_name {QS : L2.St → Hp → Prop} (h : QS (σ.set i (some v)) H) : gName i v σ H QS := h
theorem s_ret (h : te σ H D.rt) : tRet te D σ H := h
theorem s_retN (h : D.rt .non H) : tRetN D σ H := h
theorem s_drop (h : te σ H fun _ H1 => D.nx σ H1) : tDrop te D σ H := h
theorem s_if (h : c σ H fun b H1 => if b = true then t D σ H1 else u D σ H1) : tIfS c t u D σ H := h
theorem s_next (h : D.nx σ H) : tNext D σ H := h
theorem s_brk (h : D.bk σ H) : tBreak D σ H := h
theorem s_ct (h : D.ct σ H) : tCont D σ H := h
theorem s_aug {ti : TIp} (e : σ[i]? = some (some x)) (h : te σ H fun y H1 => ti x y H1 fun z H2 => D.nx (σ.set i (some z)) H2) : tAug i te ti D σ H := ⟨x, e, h⟩
theorem i_add {i j : Int} {f : Int → Int → Int} (h : Q (.int (f i j)) H) : ipI f (.int i) (.int j) H Q := ⟨i, j, rfl, rfl, h⟩
theorem s_cut (M : L2.St → Hp → Prop) (h : t ⟨M, D.rt, D.bk, D.ct⟩ σ H) (k : ∀ σ' H', M σ' H' → u D σ' H') : C8.tCut t u D σ H := ⟨M, h, k⟩
theorem e_var (e : σ[i]? = some (some v)) (h : Q v H) : tVar i σ H Q := ⟨v, e, h⟩
theorem e_c (h : Q v H) : tC v σ H Q := h
theorem e_op {r : R2} (h : ta σ H fun x H1 => tb σ H1 fun y H2 => r x y H2 Q) : tOp r ta tb σ H Q := h
theorem e_un {r : V → Hp → VK → Prop} (h : ta σ H fun x H1 => r x H1 Q) : tUn r ta σ H Q := h
theorem o_addI {i j : Int} (h : Q (.int (i + j)) H) : rAdd3 (.int i) (.int j) H Q := .inl ⟨i, j, rfl, rfl, h⟩
theorem o_addS {i j : Str} (hz : i.length + j.length ≤ sizeLine) (h : Q (.str (i ++ j)) H) : rAdd3 (.str i) (.str j) H Q := .inr (.inl ⟨i, j, rfl, rfl, hz, h⟩)
theorem o_addL {a a' : Addr} {xs ys : List V} (ha : H a = some (.lst xs)) (hb : H a' = some (.lst ys)) (hz : xs.length + ys.length ≤ sizeLine) (h : ∀ p H2, H p = none → Same H H2 → H2 p = some (.lst (xs ++ ys)) → Q (.ref p) H2) :
    rAdd3 (.ref a) (.ref a') H Q := .inr (.inr ⟨a, a', xs, ys, rfl, rfl, ha, hb, hz, new_same h⟩)
theorem o_mulI {i j : Int} (hc : CMul i j) (h : Q (.int (i * j)) H) : rMul2 (.int i) (.int j) H Q := .inl ⟨i, j, rfl, rfl, hc, h⟩
theorem o_mulI1 {i j : Int} (h1 : -(2 ^ 64) < i) (h2 : i < 2 ^ 64) (h : Q (.int (i * j)) H) : rMul2 (.int i) (.int j) H Q := o_mulI (.inl ⟨h1, h2⟩) h
theorem o_mulI2 {i j : Int} (h1 : -(2 ^ 64) < j) (h2 : j < 2 ^ 64) (h : Q (.int (i * j)) H) : rMul2 (.int i) (.int j) H Q := o_mulI (.inr ⟨h1, h2⟩) h
theorem o_mod {f : Int → Int → V} {i j : Int} (h1 : 0 < j) (h : Q (f i j) H) : rI (fun _ j => 0 < j) f (.int i) (.int j) H Q := ⟨i, j, rfl, rfl, h1, h⟩
theorem o_fdiv {f : Int → Int → V} {i j : Int} (h1 : 0 < j) (h2 : j < 1073741824) (h : Q (f i j) H) : rI CDiv f (.int i) (.int j) H Q := ⟨i, j, rfl, rfl, ⟨h1, h2⟩, h⟩
theorem o_pow {f : Int → Int → V} {i j : Int} (h1 : 0 ≤ j) (h2 : j ≤ 1000000) (h3 : i.natAbs < 2 ^ 64) (h : Q (f i j) H) : rI CPow f (.int i) (.int j) H Q := ⟨i, j, rfl, rfl, ⟨h1, h2, h3⟩, h⟩
theorem o_mulS {z : Str} {k : Int} (h0 : 0 ≤ k) (h1 : k ≤ 1000) (h2 : z.length ≤ 1000) (h : Q (.str (repS z k)) H) : rMul2 (.str z) (.int k) H Q := .inr ⟨z, k, rfl, rfl, h0, h1, h2, h⟩
theorem o_I0 {f : Int → Int → V} {i j : Int} (h : Q (f i j) H) : rI0 f (.int i) (.int j) H Q := ⟨i, j, rfl, rfl, h⟩
theorem o_I {C : Int → Int → Prop} {f : Int → Int → V} {i j : Int} (hc : C i j) (h : Q (f i j) H) : rI C f (.int i) (.int j) H Q := ⟨i, j, rfl, rfl, hc, h⟩
theorem o_eqS (hs : scal x y = true) (h : Q (.bl (decide (x = y))) H) : rEq2 K x y H Q := .inl ⟨hs, h⟩
theorem o_neS (hs : scal x y = true) (h : Q (.bl (!decide (x = y))) H) : rNe2 K x y H Q := .inl ⟨hs, h⟩
theorem o_eqD {d e : PyData} (h1 : Dp K H x d) (h2 : Dp K H y e) (h3 : SeqAt.shaped d = true) (h4 : SeqAt.shaped e = true) (h : Q (.bl (PyData.eqv d e)) H) : rEq2 K x y H Q := .inr ⟨d, e, h1, h2, h3, h4, h⟩
theorem o_neD {d e : PyData} (h1 : Dp K H x d) (h2 : Dp K H y e) (h3 : SeqAt.shaped d = true) (h4 : SeqAt.shaped e = true) (h : Q (.bl (!PyData.eqv d e)) H) : rNe2 K x y H Q := .inr ⟨d, e, h1, h2, h3, h4, h⟩
theorem o_inS {k : Nat} {z : Str} (h : Q (.bl (decide (k ∈ z.cps.toList))) H) : rIn2 K (.str ⟨#[k]⟩) (.str z) H Q := .inl ⟨k, z, rfl, rfl, h⟩
theorem o_niS {k : Nat} {z : Str} (h : Q (.bl (!decide (k ∈ z.cps.toList))) H) : rNi2 K (.str ⟨#[k]⟩) (.str z) H Q := .inl ⟨k, z, rfl, rfl, h⟩
theorem o_inT {a : Addr} {xs : List V} (hs : SqT K H a xs) (hf : flatV x = true) (hg : xs.all flatV = true) (h : Q (.bl (inV x xs)) H) : rIn2 K x (.ref a) H Q := .inr ⟨a, xs, rfl, .inr hs, hf, hg, h⟩
theorem o_inL {a : Addr} {xs : List V} (hs : SqL K H a xs) (hf : flatV x = true) (hg : xs.all flatV = true) (h : Q (.bl (inV x xs)) H) : rIn2 K x (.ref a) H Q := .inr ⟨a, xs, rfl, .inl hs, hf, hg, h⟩
theorem o_niT {a : Addr} {xs : List V} (hs : SqT K H a xs) (hf : flatV x = true) (hg : xs.all flatV = true) (h : Q (.bl (!inV x xs)) H) : rNi2 K x (.ref a) H Q := .inr ⟨a, xs, rfl, .inr hs, hf, hg, h⟩
theorem o_niL {a : Addr} {xs : List V} (hs : SqL K H a xs) (hf : flatV x = true) (hg : xs.all flatV = true) (h : Q (.bl (!inV x xs)) H) : rNi2 K x (.ref a) H Q := .inr ⟨a, xs, rfl, .inl hs, hf, hg, h⟩
def rIsN : R2 := fun x y H Q => y = .non ∧ Q (.bl (decide (x = .non))) H
def rNtN : R2 := fun x y H Q => y = .non ∧ Q (.bl (!decide (x = .non))) H
theorem op_isN2 {X : Cx} : OpR X (compareOp .Is) rIsN := op_isN
theorem op_ntN2 {X : Cx} : OpR X (compareOp .IsNot) rNtN := op_notN
theorem o_isN (h : Q (.bl (decide (x = .non))) H) : rIsN x .non H Q := ⟨rfl, h⟩
theorem o_ntN (h : Q (.bl (!decide (x = .non))) H) : rNtN x .non H Q := ⟨rfl, h⟩
theorem o_ixL {a : Addr} {xs : List V} {j : Int} (hs : SqL K H a xs) (e : atI xs j = some v) (h : Q v H) : rIx K (.ref a) (.int j) H Q := .inl ⟨a, xs, j, v, rfl, rfl, hs, e, h⟩
theorem o_ixT {a : Addr} {xs : List V} {j : Int} (hs : SqT K H a xs) (e : atI xs j = some v) (h : Q v H) : rIx K (.ref a) (.int j) H Q := .inr (.inl ⟨a, xs, j, v, rfl, rfl, hs, e, h⟩)
theorem o_ixS {z : Str} {j : Int} {k : Nat} (hz : z.length ≤ sizeLine) (e : atI z.cps.toList j = some k) (h : Q (.str ⟨#[k]⟩) H) : rIx K (.str z) (.int j) H Q := .inr (.inr ⟨z, j, k, rfl, rfl, hz, e, h⟩)
theorem u_neg {i : Int} {f : Int → V} (h : Q (f i) H) : rU f (.int i) H Q := ⟨i, rfl, h⟩
theorem t_test (h : te σ H fun x H' => KBl x H' QT) : tTest te σ H QT := h
theorem t_b (h : te σ H fun x H' => KBl x H' QT) : tB te σ H QT := h
theorem k_bl (h : QT b H) : KBl (.bl b) H QT := ⟨b, rfl, h⟩
theorem t_tr (h : te σ H fun x H' => KTr K x H' QT) : tTr K te σ H QT := h
theorem k_trB (h : QT b H) : KTr K (.bl b) H QT := ⟨b, rfl, h⟩
theorem k_trN (h : QT false H) : KTr K .non H QT := ⟨false, rfl, h⟩
theorem k_trI {i : Int} (h : QT (i != 0) H) : KTr K (.int i) H QT := ⟨_, rfl, h⟩
theorem k_trL {a : Addr} {xs : List V} (hs : SqL K H a xs) (h : QT (!xs.isEmpty) H) : KTr K (.ref a) H QT := ⟨_, .inl ⟨xs, hs, rfl⟩, h⟩
theorem k_trT {a : Addr} {xs : List V} (hs : SqT K H a xs) (h : QT (!xs.isEmpty) H) : KTr K (.ref a) H QT := ⟨_, .inr (.inl ⟨xs, hs, rfl⟩), h⟩
theorem t_and (h : c σ H fun b H1 => if b = true then c' σ H1 QT else QT false H1) : tAnd c c' σ H QT := h
theorem t_or (h : c σ H fun b H1 => if b = true then QT true H1 else c' σ H1 QT) : tOr c c' σ H QT := h
theorem t_not (h : c σ H fun b H1 => QT (!b) H1) : tNot c σ H QT := h
theorem e_andV (h : ta σ H fun x H1 => KBl x H1 fun b H2 => if b = true then tb σ H2 Q else Q (.bl false) H2) : tAndV ta tb σ H Q := h
theorem e_orV (h : ta σ H fun x H1 => KBl x H1 fun b H2 => if b = true then Q (.bl true) H2 else tb σ H2 Q) : tOrV ta tb σ H Q := h
theorem e_notV (h : ta σ H fun x H1 => KBl x H1 fun b H2 => Q (.bl (!b)) H2) : tNotV ta σ H Q := h
theorem e_if (h : c σ H fun b H1 => if b = true then ta σ H1 Q else tb σ H1 Q) : tIf c ta tb σ H Q := h
theorem e_chain {r r' : R2} {tc : TE} (h : ta σ H fun x H1 => tb σ H1 fun y H2 => r x y H2 fun z H3 => KBl z H3 fun k H3 => if k = true then tc σ H3 fun w' H4 => r' y w' H4 Q else Q (.bl false) H3) : tChain r r' ta tb tc σ H Q := h
theorem a_nil (h : QA [] H) : tNil σ H QA := h
theorem a_cons {tr : TA} (h : te σ H fun x H1 => tr σ H1 fun xs H2 => QA (x :: xs) H2) : tCons te tr σ H QA := h
theorem c_b {r : List V → Hp → VK → Prop} {tl : TA} (h : tl σ H fun vs H1 => r vs H1 Q) : tCB r tl σ H Q := h
theorem c_call {sp : Sp} {dvs : List V} {E : XK} {tl : TA} (h : tl σ H fun vs H1 => sp (vs ++ dvs) H1 Q E) : tCall sp dvs E tl σ H Q := h
theorem b_lenS {z : Str} (hz : z.length ≤ sizeLine) (h : Q (.int z.length) H) : rLn K [.str z] H Q := ⟨_, z.length, rfl, ⟨hz, rfl⟩, h⟩
theorem b_lenL {a : Addr} {xs : List V} (hs : SqL K H a xs) (h : Q (.int xs.length) H) : rLn K [.ref a] H Q := ⟨_, xs.length, rfl, .inl ⟨xs, hs, rfl⟩, h⟩
theorem b_lenT {a : Addr} {xs : List V} (hs : SqT K H a xs) (h : Q (.int xs.length) H) : rLn K [.ref a] H Q := ⟨_, xs.length, rfl, .inr ⟨xs, hs, rfl⟩, h⟩
theorem b_int {i : Int} (h : Q (.int i) H) : rInt [.int i] H Q := .inl (.inl ⟨i, rfl, h⟩)
theorem b_intB (h : Q (.int (if b then 1 else 0)) H) : rInt [.bl b] H Q := .inl (.inr ⟨b, rfl, h⟩)
theorem b_intS {z : Str} {n : Int} (e : PySem.intText? z = some n) (hl : z.length ≤ 640) (h : Q (.int n) H) : rInt [.str z] H Q := .inr ⟨z, n, rfl, e, hl, h⟩
theorem b_abs {i : Int} (h : Q (.int (if i < 0 then -i else i)) H) : rAbs [.int i] H Q := ⟨i, rfl, h⟩
theorem b_isi {n : String} {x : V} {tv : Value} (ty : TyX K H x tv) (h : PySem.W.kitOne K tv (.type n) = some b) (q : Q (.bl b) H) : rIsi K [x, .ty n] H Q := ⟨x, .ty n, tv, .type n, b, rfl, .ty n, ty, h, q⟩
theorem e_tup {tl : TA} (h : tl σ H fun xs H1 => NewO xs.length (.tup xs) H1 Q) : tTup tl σ H Q := h
theorem e_lst {tl : TA} (h : tl σ H fun xs H1 => NewO xs.length (.lst xs) H1 Q) : tLst tl σ H Q := h
theorem n_obj {n : Nat} {o : HO} (hz : n ≤ sizeLine) (h : ∀ p H2, H p = none → Same H H2 → H2 p = some o → Q (.ref p) H2) : NewO n o H Q := ⟨hz, new_same h⟩
theorem e_sl {r : V → Option Int → Option Int → Hp → VK → Prop} {tl th : TO} (h : te σ H fun x H1 => tl σ H1 fun l H2 => th σ H2 fun u H3 => r x l u H3 Q) : tSl r te tl th σ H Q := h
theorem p_no {QO : Option Int → Hp → Prop} (h : QO none H) : tNoPart σ H QO := h
theorem p_so {QO : Option Int → Hp → Prop} (h : te σ H fun x H1 => KInt x H1 QO) : tPart te σ H QO := h
theorem k_int {i : Int} {QO : Option Int → Hp → Prop} (h : QO (some i) H) : KInt (.int i) H QO := ⟨i, rfl, h⟩
theorem l_S {z : Str} {lo hi : Option Int} (hz : z.length ≤ sizeLine) (h : Q (.str (cutS z lo hi)) H) : rSl2 K (.str z) lo hi H Q := .inl ⟨z, rfl, hz, h⟩
theorem l_L {a : Addr} {xs : List V} {lo hi : Option Int} (hs : SqL K H a xs) (h : ∀ p H2, H p = none → Same H H2 → H2 p = some (.lst (cutV xs lo hi)) → Q (.ref p) H2) : rSl2 K (.ref a) lo hi H Q := .inr ⟨a, xs, rfl, hs, new_same h⟩
/-- o.m(..), m of a built-in type -/
theorem m_bm {T : String} {r : V → List V → Hp → VK → Prop} {tl : TA} (h : te σ H fun x H1 => tyV K T x H1 ∧ tl σ H1 fun xs H2 => r x xs H2 Q) : tBM K T r te tl σ H Q := h
theorem m_ty {a : Addr} {xs : List V} {P : Prop} (hs : SqL K H a xs) (h : P) : tyV K "list" (.ref a) H ∧ P := ⟨.inl ⟨rfl, xs, hs⟩, h⟩
theorem m_app {a : Addr} {xs : List V} (e : H a = some (.lst xs)) (hz : xs.length < sizeLine) (h : ∀ H2, Chg a H H2 → H2 a = some (.lst (xs ++ [y])) → Q .non H2) : rAppend (.ref a) [y] H Q := ⟨a, xs, y, rfl, rfl, e, hz, h _ chg_upd upd_same⟩
theorem g_sub {to ti : TE} {ts : TSet} {QS : L2.St → Hp → Prop} (h : to σ H fun o H1 => ti σ H1 fun i H2 => ts o i v H2 fun H3 => QS σ H3) : gSub to ti ts v σ H QS := h
theorem st_L {a : Addr} {xs : List V} {k : Int} {j : Nat} {QH : Hp → Prop} (e : H a = some (.lst xs)) (hj : ixN xs.length k = some j) (h : ∀ H2, Chg a H H2 → H2 a = some (.lst (xs.set j v)) → QH H2) : rSetL (.ref a) (.int k) v H QH := ⟨a, xs, k, j, rfl, rfl, e, hj, h _ chg_upd upd_same⟩
theorem m_m1 {r : V → List V → Hp → VK → Prop} (h : te σ H fun x H1 => (∃ a, x = .str a) ∧ ta σ H1 fun y H2 => r x [y] H2 Q) : tM1 r te ta σ H Q := h
theorem m_st {z : Str} {P : Prop} (h : P) : (∃ a, V.str z = .str a) ∧ P := ⟨⟨z, rfl⟩, h⟩
def rJoin (K : PySem.W.Frag) : V → List V → Hp → VK → Prop := fun x xs H Q => ∃ a p, ∃ ys : List Str, x = .str a ∧ xs = [.ref p] ∧ (SqL K H p (ys.map V.str) ∨ SqT K H p (ys.map V.str)) ∧
  (ys.map (·.length)).sum + ys.length * a.length ≤ 16777216 ∧ Q (.str (Txt.join a ys)) H
theorem pe_join2 {X : Cx} {o e : Expr} {to te : TE} {apos pos : Pos} (ho : PE X o to) (he : PE X e te) (hs : starEach [e] X.env = [(false, eval e X.env)] := by rfl) (hbase : attributeBase o "join" X.env (eval o X.env) = eval o X.env := by rfl) (hline : (apos.endLine == pos.line) = true := by rfl) :
    PE X (.Call (.Attribute o "join" apos) [e] [] pos) (tM1 (rJoin X.K) to te) := pe_join ho he hs hbase hline
theorem m_join {z : Str} {a : Addr} {ys : List Str} (hs : SqL K H a (ys.map V.str)) (hz : (ys.map (·.length)).sum + ys.length * z.length ≤ 16777216) (h : Q (.str (Txt.join z ys)) H) : rJoin K (.str z) [.ref a] H Q := ⟨z, a, ys, rfl, rfl, .inl hs, hz, h⟩
/-! ### loops -/
def LoopF (J : It) (g : TG) (tb : TS) (D : Ends) (σ : L2.St) (H : Hp) : Prop := ∃ W : Nat → Nat → L2.St → Hp → Prop, (∃ m, W 0 m σ H) ∧ ∀ i m σ H, W i m σ H →
  (J.stop i H ∧ D.nx σ H) ∨ (J.go i H ∧ ∃ N : L2.St → Hp → Prop, (∀ σ' H', N σ' H' → ∃ m', m' < m ∧ W (i + 1) m' σ' H') ∧ ∀ x H', J.yld i H x H' → g x σ H' fun σ2 H2 => tb { D with nx := N, ct := N, bk := D.nx } σ2 H2)
theorem s_for {wi : TI} (h : wi σ H fun J H1 => LoopF J g t D σ H1) : tFor wi g t D σ H := h
def LoopC (J : It) (g : TG) (tt : TT) (te : TE) (vs : List Nat) (σ : L2.St) (H1 : Hp) (Q : VK) : Prop := ∀ D, H1 D = none → ∃ W : Nat → Nat → Hp → Prop, (∃ m, W 0 m (upd H1 D (.lst []))) ∧ ∀ i m H, W i m H →
  (J.stop i H ∧ Q (.ref D) H) ∨ (J.go i H ∧ ∃ Nx : Hp → Prop, (∀ H', Nx H' → ∃ m', m' < m ∧ W (i + 1) m' H') ∧ ∀ x H', J.yld i H x H' → g x (wipe σ vs) H' fun σ2 H2 => wipe σ2 vs = wipe σ vs ∧ tt σ2 H2 fun b H3 =>
    if b = true then te σ2 H3 fun y H4 => ∃ acc, H4 D = some (.lst acc) ∧ acc.length < sizeLine ∧ Nx (upd H4 D (.lst (acc ++ [y]))) else Nx H3)
theorem e_lc {wi : TI} {tt : TT} {vs : List Nat} (h : wi σ H fun J H1 => LoopC J g tt te vs σ H1 Q) : tLc wi g tt te vs σ H Q := h
theorem t_yes (h : QT true H) : tYes σ H QT := h
theorem w_r1 {tl : TA} {R : It → Hp → Prop} (h : tl σ H fun vs H1 => KR1 vs H1 R) : iRng1 tl σ H R := h
theorem w_r2 {tl : TA} {R : It → Hp → Prop} (h : tl σ H fun vs H1 => KR2 vs H1 R) : iRng2 tl σ H R := h
theorem k_r1 {j : Int} {R : It → Hp → Prop} (h1 : -(2 ^ 62) ≤ j) (h2 : j < 2 ^ 62) (h : R (Itr 0 j.toNat) H) : KR1 [.int j] H R := ⟨j, rfl, h1, h2, h⟩
theorem k_r2 {i j : Int} {R : It → Hp → Prop} (h1 : -(2 ^ 62) ≤ i ∧ i < 2 ^ 62 ∧ -(2 ^ 62) ≤ j ∧ j < 2 ^ 62) (h : R (Itr i (j - i).toNat) H) : KR2 [.int i, .int j] H R := ⟨i, j, rfl, h1, h⟩
theorem w_l {R : It → Hp → Prop} (h : te σ H fun x H1 => KL K x H1 R) : iList K te σ H R := h
theorem k_l {a : Addr} {xs : List V} {R : It → Hp → Prop} (hs : SqL K H a xs) (h : R (Itl K a) H) : KL K (.ref a) H R := ⟨a, rfl, ⟨xs, hs⟩, h⟩
theorem w_t {R : It → Hp → Prop} (h : te σ H fun x H1 => KT K x H1 R) : iTup K te σ H R := h
theorem k_t {a : Addr} {xs : List V} {R : It → Hp → Prop} (hs : SqT K H a xs) (h : R (Itt K a) H) : KT K (.ref a) H R := ⟨a, rfl, ⟨xs, hs⟩, h⟩
theorem f_range {lo : Int} {n : Nat} (Pv : Nat → L2.St → Hp → Prop) (h0 : Pv 0 σ H)
    (hs : ∀ i σ H, i < n → Pv i σ H → g (.int (lo + i)) σ H fun σ2 H2 => t ⟨Pv (i + 1), D.rt, D.nx, Pv (i + 1)⟩ σ2 H2) (hd : ∀ σ H, Pv n σ H → D.nx σ H) : LoopF (Itr lo n) g t D σ H := for_range Pv h0 hs hd
theorem f_list {a : Addr} {xs : List V} (Pv : Nat → L2.St → Hp → Prop) (h0 : Pv 0 σ H) (hl : ∀ i σ H, i ≤ xs.length → Pv i σ H → SqL K H a xs)
    (hs : ∀ i x σ H, xs[i]? = some x → Pv i σ H → g x σ H fun σ2 H2 => t ⟨Pv (i + 1), D.rt, D.nx, Pv (i + 1)⟩ σ2 H2) (hd : ∀ σ H, Pv xs.length σ H → D.nx σ H) : LoopF (Itl K a) g t D σ H := for_list Pv h0 hl hs hd
theorem f_tup {a : Addr} {xs : List V} (Pv : Nat → L2.St → Hp → Prop) (h0 : Pv 0 σ H) (hl : ∀ i σ H, i ≤ xs.length → Pv i σ H → SqT K H a xs)
    (hs : ∀ i x σ H, xs[i]? = some x → Pv i σ H → g x σ H fun σ2 H2 => t ⟨Pv (i + 1), D.rt, D.nx, Pv (i + 1)⟩ σ2 H2) (hd : ∀ σ H, Pv xs.length σ H → D.nx σ H) : LoopF (Itt K a) g t D σ H := for_tup Pv h0 hl hs hd
/-- a text, sign by sign -/
theorem w_s {R : It → Hp → Prop} (h : te σ H fun x H1 => KS x H1 R) : iStr te σ H R := h
theorem k_s {z : Str} {R : It → Hp → Prop} (h : R (Its z) H) : KS (.str z) H R := ⟨z, rfl, h⟩
theorem f_str {z : Str} (Pv : Nat → L2.St → Hp → Prop) (h0 : Pv 0 σ H)
    (hs : ∀ i k σ H, z.cps.toList[i]? = some k → Pv i σ H → g (.str ⟨#[k]⟩) σ H fun σ2 H2 => t ⟨Pv (i + 1), D.rt, D.nx, Pv (i + 1)⟩ σ2 H2) (hd : ∀ σ H, Pv z.cps.toList.length σ H → D.nx σ H) : LoopF (Its z) g t D σ H := by
  refine ⟨fun i m σ H => m = z.cps.toList.length - i ∧ i ≤ z.cps.toList.length ∧ Pv i σ H, ⟨_, rfl, Nat.zero_le _, h0⟩, ?_⟩
  rintro i m σ H ⟨rfl, hi, p⟩
  by_cases hlt : i < z.cps.toList.length
  · refine .inr ⟨show i < z.cps.size by simpa using hlt, Pv (i + 1), fun σ' H' p' => ⟨z.cps.toList.length - (i + 1), by omega, rfl, hlt, p'⟩, fun x H' y => ?_⟩
    obtain ⟨rfl, k, e, rfl⟩ := y
    exact hs i k σ _ (by simpa using e) p
  · have e : i = z.cps.toList.length := by omega
    subst e
    exact .inl ⟨by simp [Its], hd σ H p⟩
theorem c_range {lo : Int} {n : Nat} {vs : List Nat} {tt : TT} (Pv : Addr → Nat → Hp → Prop) (h0 : ∀ D H1, H D = none → Same H H1 → H1 D = some (.lst []) → Pv D 0 H1)
    (hs : ∀ D i H1, i < n → H D = none → Pv D i H1 → g (.int (lo + i)) (wipe σ vs) H1 fun σ2 H2 => wipe σ2 vs = wipe σ vs ∧ tt σ2 H2 fun b H3 =>
      if b = true then te σ2 H3 fun y H4 => COut D y H4 (Pv D (i + 1)) else Pv D (i + 1) H3) (hd : ∀ D H1, H D = none → Pv D n H1 → Q (.ref D) H1) :
    LoopC (Itr lo n) g tt te vs σ H Q := fun D nD => lc_range (Pv D) (h0 D _ nD (same_new nD) upd_same) (fun i H1 hi p => hs D i H1 hi nD p) fun H1 p => hd D H1 nD p
theorem c_list {a : Addr} {xs : List V} {vs : List Nat} {tt : TT} (Pv : Addr → Nat → Hp → Prop) (h0 : ∀ D H1, H D = none → Same H H1 → H1 D = some (.lst []) → Pv D 0 H1) (hl : ∀ D i H1, i ≤ xs.length → H D = none → Pv D i H1 → SqL K H1 a xs)
    (hs : ∀ D i x H1, xs[i]? = some x → H D = none → Pv D i H1 → g x (wipe σ vs) H1 fun σ2 H2 => wipe σ2 vs = wipe σ vs ∧ tt σ2 H2 fun b H3 =>
      if b = true then te σ2 H3 fun y H4 => COut D y H4 (Pv D (i + 1)) else Pv D (i + 1) H3) (hd : ∀ D H1, H D = none → Pv D xs.length H1 → Q (.ref D) H1) :
    LoopC (Itl K a) g tt te vs σ H Q := fun D nD => lc_list (Pv D) (h0 D _ nD (same_new nD) upd_same) (fun i H1 hi p => hl D i H1 hi nD p) (fun i x H1 hi p => hs D i x H1 hi nD p) fun H1 p => hd D H1 nD p
theorem c_out {D : Addr} {acc : List V} {N : Hp → Prop} (e : H D = some (.lst acc)) (hz : acc.length < sizeLine) (h : ∀ H2, Chg D H H2 → H2 D = some (.lst (acc ++ [y])) → N H2) : COut D y H N := ⟨acc, e, hz, h _ chg_upd upd_same⟩
theorem s_while (W : Nat → L2.St → Hp → Prop) (m0 : Nat) (h0 : W m0 σ H) (hs : ∀ m σ H, W m σ H → c σ H fun b H1 => if b = true then KWh W m t D σ H1 else D.nx σ H1) : tWhile c t D σ H := ⟨W, ⟨m0, h0⟩, hs⟩
theorem k_while {W : Nat → L2.St → Hp → Prop} {m : Nat} (h : t ⟨fun σ' H' => ∃ m', m' < m ∧ W m' σ' H', D.rt, D.nx, fun σ' H' => ∃ m', m' < m ∧ W m' σ' H'⟩ σ H) : KWh W m t D σ H := ⟨_, fun _ _ q => q, h⟩
end
/-! ### a def of the top -/
structure DefOk (K : PySem.W.Frag) (mg : Str → Option Value) (x : Str) (st : Stmt) : Prop where
  ex : ∃ f fd, FunD K x x (defArgs st) (defBody st) (defScope st) [] [] f fd ∧ mg x = some (.ref f)
theorem cal_of {P : Program} {w : World} {K : PySem.W.Frag} {mg : Str → Option Value} {base : Heap} {x : Str} {st : Stmt} {N ps : List Str} {k : Nat} {sp : Sp} (F : DefOk K mg x st) (S : FnScope N ps (defScope st))
    (hb : ∀ f fd, FunD K x x (defArgs st) (defBody st) (defScope st) [] [] f fd → Binds K fd ps []) (len : ∀ vs H Q E, sp vs H Q E → vs.length = ps.length)
    (body : ∀ (f : Addr) (cdv : Value) (A : Around) (outer : List Env) (s : Shared) (H : Hp) (vs : List V) (Q : VK) (E : XK), Room k (A.deeper (envOfC x (defScope st) s.heap.objs.size f cdv)) → sp vs H Q E →
      ∃ t, PSs (cxOf CX0 P w K mg base N x (defScope st) f cdv A outer s H E).nox (defBody st) t ∧ t { nx := fun _ H' => Q .non H', rt := Q } (start N vs) H) : C8.Cal P w K mg base (k + 1) x sp [] := by
  obtain ⟨f, fd, F, hm⟩ := F.ex
  refine ⟨f, fd, ps, [], F.ok S len fun cdv A outer s H vs Q E hr h => ?_, hm, F.kp, hb f fd F, .nil⟩
  obtain ⟨t, h1, h2⟩ := body f cdv A outer s H vs Q E hr h
  exact ⟨t, PSs.nox h1, h2⟩
/-! ### calls without arguments -/
section
variable {X : Cx} {k j : Nat} {x : Str} {sp : Sp} {dvs : List V} {p pos : Pos}
theorem pe_c0 (c : C8.Cal X.prog X.w X.K X.mg X.base k x sp dvs) (hr : Room j X.A) (hk : k ≤ j) (hg : Gl X x) (hdb : (x == ("__debug__" : Str)) = false := by decide) :
    PE X (.Call (.Name x p) [] [] pos) (tCall sp dvs C8.E0 tNil) := by
  obtain ⟨f, fd, ps, ds, F, hm, kp, b, d⟩ := c.ex
  exact pe_call0 F (hr.mono hk) hg hm kp b d pass0 hdb
end
/-! ### a law's own hand of draws -/
def HandAt (H : Hp) (h d : Addr) : Prop := ∃ (n : Int) (ds : List Int), H h = some (.lst [.ref d, .int n]) ∧ 0 ≤ n ∧ H d = some (.lst (ds.map V.int))
/-- a draw below many -/
def spTake : Sp := fun vs H Q _ => ∃ (h d : Addr) (m : Int), vs = [.ref h, .int m] ∧ HandAt H h d ∧ 0 < m ∧ ∀ r H', 0 ≤ r → r < m → Chg h H H' → HandAt H' h d → Q (.int r) H'
theorem HandAt.ne {H : Hp} {h d : Addr} (x : HandAt H h d) : d ≠ h := by
  obtain ⟨n, ds, h1, h2, h3⟩ := x
  intro e
  subst e
  rw [h1] at h3
  cases ds <;> cases h3
theorem HandAt.same {H H' : Hp} {h d : Addr} (s : Same H H') (x : HandAt H h d) : HandAt H' h d := by
  obtain ⟨n, ds, h1, h2, h3⟩ := x
  exact ⟨n, ds, s _ _ h1, h2, s _ _ h3⟩
theorem HandAt.chg {H H' : Hp} {h d D : Addr} (c : Chg D H H') (x : HandAt H h d) (n1 : h ≠ D) (n2 : d ≠ D) : HandAt H' h d := by
  obtain ⟨n, ds, h1, h2, h3⟩ := x
  exact ⟨n, ds, c.at h1 n1, h2, c.at h3 n2⟩
theorem HandAt.new {H : Hp} {h d D : Addr} (x : HandAt H h d) (n : H D = none) : h ≠ D ∧ d ≠ D := by
  obtain ⟨_, ds, h1, h2, h3⟩ := x
  exact ⟨ne_of_none h1 n, ne_of_none h3 n⟩
/-- all but h is kept -/
def Keep (h : Addr) (H H' : Hp) : Prop := ∀ b o, b ≠ h → H b = some o → H' b = some o
theorem Keep.refl (h : Addr) (H : Hp) : Keep h H H := fun _ _ _ e => e
theorem Keep.trans {h : Addr} {H H1 H2 : Hp} (a : Keep h H H1) (b : Keep h H1 H2) : Keep h H H2 := fun c o n e => b c o n (a c o n e)
theorem Chg.keep {h : Addr} {H H' : Hp} (c : Chg h H H') : Keep h H H' := fun b o n e => c.at e n
theorem _root_.L2.Same.keep {h : Addr} {H H' : Hp} (c : Same H H') : Keep h H H' := fun b o _ e => c b o e
theorem Keep.chg {h D : Addr} {H H1 H2 : Hp} (k : Keep h H H1) (c : Chg D H1 H2) (n : H D = none) : Keep h H H2 := fun b o m e => c.at (k b o m e) (ne_of_none e n)
theorem Keep.free {h D : Addr} {H H1 : Hp} (k : Keep h H H1) (n : H1 D = none) (m : D ≠ h) : H D = none := by
  cases q : H D with
  | none => rfl
  | some o =>
    rw [k D o m q] at n
    cases n
theorem Keep.at {h b : Addr} {H H' : Hp} {o : HO} (c : Keep h H H') (e : H b = some o) (n : b ≠ h) : H' b = some o := c b o n e
theorem atI_of {α : Type} {xs : List α} {i : Int} {j : Nat} {v : α} (e : i = (j : Int)) (h : xs[j]? = some v) : atI xs i = some v := by
  subst e
  exact atI_nat h
/-! ### texts -/
theorem joinL_nil : ∀ ps : List (List Nat), TL.joinL [] ps = ps.flatten
  | [] => rfl
  | [p] => by simp [TL.joinL]
  | p :: q :: r => by
    show p ++ ([] ++ TL.joinL [] (q :: r)) = _
    rw [joinL_nil (q :: r)]
    simp
theorem join_empty (ys : List Str) : (Txt.join (Str.ofString "") ys).cps.toList = (ys.map fun y => y.cps.toList).flatten := by
  rw [TL.join_eq]
  have h := TL.tl_join (Str.ofString "") ys
  have e : TL.tl (Str.ofString "") = [] := by decide +kernel
  rw [e, joinL_nil] at h
  exact h
theorem str_len (z : Str) : z.length = z.cps.toList.length := by simp [Str.length]
theorem str_ext {x y : Str} (h : x.cps.toList = y.cps.toList) : x = y := by
  obtain ⟨a⟩ := x
  obtain ⟨b⟩ := y
  have e : a = b := Array.ext' h
  rw [e]
theorem app_len (x y : Str) : (x ++ y).length = x.length + y.length := by
  show (x.cps ++ y.cps).size = x.cps.size + y.cps.size
  simp
theorem app_tl (x y : Str) : (x ++ y).cps.toList = x.cps.toList ++ y.cps.toList := by
  show (x.cps ++ y.cps).toList = x.cps.toList ++ y.cps.toList
  simp
theorem repS_len (z : Str) (k : Int) : (repS z k).length = k.toNat * z.length := by
  unfold repS
  simp [Str.length, List.length_flatten, List.map_replicate, List.sum_replicate_nat]
theorem cutS_nat (z : Str) {i j : Nat} (hi : i ≤ z.length) (hj : j ≤ z.length) : (cutS z (some (i : Int)) (some (j : Int))).cps.toList = (z.cps.toList.drop i).take (j - i) := by
  unfold cutS
  rw [HT.sIx_nat, HT.sIx_nat, Nat.min_eq_left hi, Nat.min_eq_left hj]
theorem cutS_len2 (z : Str) (i : Nat) : (cutS z (some (i : Int)) (some ((i + 2 : Nat) : Int))).length = min (i + 2) z.length - min i z.length := by
  unfold cutS
  rw [HT.sIx_nat, HT.sIx_nat]
  show ((((z.cps.toList.drop (min i z.length)).take (min (i + 2) z.length - min i z.length)).toArray).size) = _
  rw [List.size_toArray, List.length_take, List.length_drop, Array.length_toList]
  show min _ (z.length - _) = _
  omega
/-- the place behind the longest run from i of signs in p -/
def runEnd (cs p : List Nat) (i : Nat) : Nat := i + ((cs.drop i).takeWhile fun c => decide (c ∈ p)).length
theorem runEnd_out {cs p : List Nat} {i : Nat} (h : cs.length ≤ i) : runEnd cs p i = i := by
  unfold runEnd
  rw [List.drop_of_length_le h]
  rfl
theorem runEnd_no {cs p : List Nat} {i c : Nat} (e : cs[i]? = some c) (h : c ∉ p) : runEnd cs p i = i := by
  unfold runEnd
  have hi : i < cs.length := (List.getElem?_eq_some_iff.mp e).1
  rw [List.drop_eq_getElem_cons hi, (List.getElem?_eq_some_iff.mp e).2, List.takeWhile_cons_of_neg (by simpa using h)]
  rfl
theorem runEnd_yes {cs p : List Nat} {i c : Nat} (e : cs[i]? = some c) (h : c ∈ p) : runEnd cs p i = runEnd cs p (i + 1) := by
  unfold runEnd
  have hi : i < cs.length := (List.getElem?_eq_some_iff.mp e).1
  rw [List.drop_eq_getElem_cons hi, (List.getElem?_eq_some_iff.mp e).2, List.takeWhile_cons_of_pos (by simpa using h), List.length_cons]
  omega
theorem runEnd_ge (cs p : List Nat) (i : Nat) : i ≤ runEnd cs p i := Nat.le_add_right _ _
theorem runEnd_le {cs p : List Nat} {i : Nat} (h : i ≤ cs.length) : runEnd cs p i ≤ cs.length := by
  unfold runEnd
  have h1 := (List.takeWhile_prefix (fun c => decide (c ∈ p)) (l := cs.drop i)).length_le
  rw [List.length_drop] at h1
  omega
theorem runEnd_all {cs p : List Nat} : runEnd cs p 0 = cs.length ↔ ∀ c ∈ cs, c ∈ p := by
  unfold runEnd
  rw [List.drop_zero, Nat.zero_add]
  induction cs with
  | nil => simp
  | cons a r ih =>
    by_cases h : a ∈ p
    · rw [List.takeWhile_cons_of_pos (by simpa using h), List.length_cons, List.length_cons, Nat.add_right_cancel_iff, ih]
      simp [h]
    · rw [List.takeWhile_cons_of_neg (by simpa using h)]
      simp [h]
theorem atI_cps {z : Str} {i : Nat} (h : i < z.length) : ∃ c, z.cps.toList[i]? = some c ∧ atI z.cps.toList (i : Int) = some c := by
  have h1 : i < z.cps.toList.length := by rw [← str_len]; exact h
  exact ⟨_, List.getElem?_eq_getElem h1, atI_nat (List.getElem?_eq_getElem h1)⟩
theorem small1000' {n : Nat} (h : n ≤ 100000) : n < sizeLine := Nat.lt_of_le_of_lt h (by decide)
theorem ixN_nat {n j : Nat} (h : j < n) : ixN n (j : Int) = some j := by
  unfold ixN
  rw [if_pos (by omega), if_pos (by omega)]
  simp
/-- one sign, compared -/
theorem sign_eq {c k : Nat} {y : Str} (hy : y = ⟨#[k]⟩) : decide (V.str ⟨#[c]⟩ = V.str y) = true ↔ c = k := by
  rw [decide_eq_true_iff, hy]
  constructor
  · intro e
    injection e with e
    injection e with e
    have e2 := congrArg Array.toList e
    simpa using e2
  · intro e
    rw [e]
theorem snoc_int {H : Hp} {d : Addr} {ds : List Int} {v : Int} (e : H d = some (.lst (ds.map V.int ++ [.int v]))) : ∃ ds' : List Int, H d = some (.lst (ds'.map V.int)) ∧ ds'.length = ds.length + 1 :=
  ⟨ds ++ [v], by rw [e, List.map_append]; rfl, by rw [List.length_append]; rfl⟩
/-- the items are texts of at most m signs -/
def strsB (m : Nat) (xs : List V) : Bool := xs.all fun x => match x with | .str y => decide (y.length ≤ m) | _ => false
theorem item_str (xs : List V) {m : Nat} (h : strsB m xs = true) {j : Nat} (hj : j < xs.length) : ∃ y : Str, xs[j]? = some (.str y) ∧ y.length ≤ m := by
  have h1 := List.all_eq_true.mp h xs[j] (List.getElem_mem hj)
  cases e : xs[j] with
  | str y =>
    rw [e] at h1
    exact ⟨y, by rw [List.getElem?_eq_getElem hj, e], of_decide_eq_true h1⟩
  | _ =>
    rw [e] at h1
    cases h1
theorem fn_of2 {P : Program} {w : World} {K : PySem.W.Frag} {mg : Str → Option Value} {base : Heap} {x : Str} {st : Stmt} {N ps : List Str} {k : Nat} {sp : Sp} {f : Addr} {fd : FuncData} (F : FunD K x x (defArgs st) (defBody st) (defScope st) [] [] f fd) (S : FnScope N ps (defScope st))
    (len : ∀ vs H Q E, sp vs H Q E → vs.length = ps.length)
    (body : ∀ (f : Addr) (cdv : Value) (A : Around) (outer : List Env) (s : Shared) (H : Hp) (vs : List V) (Q : VK) (E : XK), Room k (A.deeper (envOfC x (defScope st) s.heap.objs.size f cdv)) → sp vs H Q E →
      ∃ t, PSs (cxOf CX0 P w K mg base N x (defScope st) f cdv A outer s H E).nox (defBody st) t ∧ t { nx := fun _ H' => Q .non H', rt := Q } (start N vs) H) : FnOk P w K mg base CX0 (k + 1) f fd ps sp :=
  F.ok S len fun cdv A outer s H vs Q E hr h => by
    obtain ⟨t, h1, h2⟩ := body f cdv A outer s H vs Q E hr h
    exact ⟨t, PSs.nox h1, h2⟩
theorem lz {n : Nat} (h : n ≤ 1000) : n ≤ sizeLine := Nat.le_of_lt (small1000 h)
/-! ### more steps -/
def rStrI : List V → Hp → VK → Prop := fun xs H Q => ∃ i, xs = [.int i] ∧ i.natAbs.log2 < 1920 ∧ Q (.str (toString i)) H
theorem call_strI {X : Cx} : CallR X (.type "str") rStrI := call_str_int
def rLst (K : PySem.W.Frag) : List V → Hp → VK → Prop := fun xs H Q => ∃ p ys, xs = [.ref p] ∧ (SqL K H p ys ∨ SqT K H p ys) ∧ ∀ l, H l = none → Q (.ref l) (upd H l (.lst ys))
theorem call_lst {X : Cx} : CallR X (.type "list") (rLst X.K) := call_list_of
def rTpl (K : PySem.W.Frag) : List V → Hp → VK → Prop := fun xs H Q => ∃ p ys, xs = [.ref p] ∧ SqL K H p ys ∧ ∀ l, H l = none → Q (.ref l) (upd H l (.tup ys))
theorem log_small {n : Nat} (h : n < 10 ^ 40) : n.log2 < 1920 := by
  by_cases h0 : n = 0
  · subst h0
    decide
  · rw [Nat.log2_lt h0]
    exact Nat.lt_of_lt_of_le h (by decide +kernel)
def tJoined (ts : List TE) : TE := fun σ H Q => tJs ts Str.empty σ H fun out H1 => Q (.str out) H1
theorem pe_joined2 {X : Cx} {v1 v2 : Expr} {rest : List Expr} {ts : List TE} {pos : Pos} (h : PJ X (v1 :: v2 :: rest) ts) : PE X (.JoinedStr (v1 :: v2 :: rest) pos) (tJoined ts) := pe_joined h
def KJ (x : V) (acc : Str) (ts : List TE) (σ : L2.St) (H : Hp) (Q : Str → Hp → Prop) : Prop := ∃ y : Str, x = .str y ∧ (acc ++ y).length ≤ sizeLine ∧ tJs ts (acc ++ y) σ H Q
def KF (x : V) (H : Hp) (Q : VK) : Prop := (∃ y : Str, x = .str y ∧ y.length ≤ sizeLine ∧ Q (.str y) H) ∨ ∃ i : Int, x = .int i ∧ i.natAbs.log2 < 1920 ∧ Q (.str (toString i)) H
section
variable {K : PySem.W.Frag} {σ : L2.St} {H : Hp} {Q : VK} {QS : L2.St → Hp → Prop} {QJ : Str → Hp → Prop} {te : TE} {ts : List TE} {v : V} {g : TG}
theorem g_tup {u : TGs} {a : Addr} {xs : List V} {n : Nat} (hs : SqT K H a xs) (hl : xs.length = n) (h : u xs σ H QS) : gTup K n u (.ref a) σ H QS := ⟨a, xs, rfl, hs, hl, h⟩
theorem g_cons {u : TGs} {r : List V} (h : g v σ H fun σ' H' => u r σ' H' QS) : gCons g u (v :: r) σ H QS := ⟨v, r, rfl, h⟩
theorem g_nil (h : QS σ H) : gNil [] σ H QS := ⟨rfl, h⟩
theorem b_strI {i : Int} (hz : i.natAbs < 10 ^ 40) (h : Q (.str (toString i)) H) : rStrI [.int i] H Q := ⟨i, rfl, log_small hz, h⟩
theorem b_lst {a : Addr} {xs : List V} (hs : SqL K H a xs) (h : ∀ p H2, H p = none → Same H H2 → H2 p = some (.lst xs) → Q (.ref p) H2) : rLst K [.ref a] H Q := ⟨a, xs, rfl, .inl hs, new_same h⟩
theorem e_joined (h : tJs ts Str.empty σ H fun out H1 => Q (.str out) H1) : tJoined ts σ H Q := h
theorem j_nil {acc : Str} (h : QJ acc H) : tJs [] acc σ H QJ := h
theorem j_cons {acc : Str} (h : te σ H fun x H1 => KJ x acc ts σ H1 QJ) : tJs (te :: ts) acc σ H QJ := h
theorem k_j {acc y : Str} (hz : (acc ++ y).length ≤ sizeLine) (h : tJs ts (acc ++ y) σ H QJ) : KJ (.str y) acc ts σ H QJ := ⟨y, rfl, hz, h⟩
theorem e_fmt (h : te σ H fun x H1 => KF x H1 Q) : tFmt te σ H Q := h
theorem k_fS {y : Str} (hz : y.length ≤ sizeLine) (h : Q (.str y) H) : KF (.str y) H Q := .inl ⟨y, rfl, hz, h⟩
theorem k_fI {i : Int} (hz : i.natAbs < 10 ^ 40) (h : Q (.str (toString i)) H) : KF (.int i) H Q := .inr ⟨i, rfl, log_small hz, h⟩
end
/-! ### data of tuples -/
mutual
inductive Tp (H : Hp) : V → PyData → Prop
  | non : Tp H .non .none
  | bl (b : Bool) : Tp H (.bl b) (.bool b)
  | int (i : Int) : Tp H (.int i) (.int i)
  | str (x : Str) : Tp H (.str x) (.str x)
  | tup {a : Addr} {xs : List V} {ds : List PyData} : H a = some (.tup xs) → TpAll H xs ds → Tp H (.ref a) (.tuple ds)
inductive TpAll (H : Hp) : List V → List PyData → Prop
  | nil : TpAll H [] []
  | cons {v : V} {vs : List V} {d : PyData} {ds : List PyData} : Tp H v d → TpAll H vs ds → TpAll H (v :: vs) (d :: ds)
end
/-- the tuples stay -/
def TK (H H' : Hp) : Prop := ∀ a xs, H a = some (.tup xs) → H' a = some (.tup xs)
theorem TK.refl (H : Hp) : TK H H := fun _ _ e => e
theorem TK.trans {H H1 H2 : Hp} (a : TK H H1) (b : TK H1 H2) : TK H H2 := fun c xs e => b c xs (a c xs e)
theorem _root_.L2.Same.tk {H H' : Hp} (s : Same H H') : TK H H' := fun a xs e => s a _ e
theorem Chg.tk {l : Addr} {H H' : Hp} {ys : List V} (c : Chg l H H') (e : H l = some (.lst ys)) : TK H H' := fun a xs h => c.at h (ne_of h e (by intro z; cases z))
theorem Keep.tk {h : Addr} {H H' : Hp} {ys : List V} (c : Keep h H H') (e : H h = some (.lst ys)) : TK H H' := fun a xs q => c.at q (ne_of q e (by intro z; cases z))
theorem HandAt.keep_tk {h d : Addr} {H H' : Hp} (x : HandAt H h d) (c : Keep h H H') : TK H H' := by
  obtain ⟨n, ds, h1, _, _⟩ := x
  exact c.tk h1
theorem HandAt.chg_tk {h d : Addr} {H H' : Hp} (x : HandAt H h d) (c : Chg h H H') : TK H H' := x.keep_tk c.keep
mutual
theorem Tp.tk {H H' : Hp} (k : TK H H') : ∀ {d : PyData} {v : V}, Tp H v d → Tp H' v d
  | .none, _, h => by cases h; exact .non
  | .bool b, _, h => by cases h; exact .bl b
  | .int i, _, h => by cases h; exact .int i
  | .str x, _, h => by cases h; exact .str x
  | .tuple ds, _, h => by
    cases h with
    | tup e r => exact .tup (k _ _ e) (TpAll.tk k r)
  | .list _, _, h => by cases h
  | .dict _, _, h => by cases h
theorem TpAll.tk {H H' : Hp} (k : TK H H') : ∀ {ds : List PyData} {vs : List V}, TpAll H vs ds → TpAll H' vs ds
  | [], _, h => by cases h; exact .nil
  | d :: ds, _, h => by
    cases h with
    | cons h1 h2 => exact .cons (Tp.tk k h1) (TpAll.tk k h2)
end
mutual
theorem Tp.dp {K : PySem.W.Frag} {H : Hp} : ∀ {d : PyData} {v : V}, Tp H v d → Dp K H v d
  | .none, _, h => by cases h; exact .non
  | .bool b, _, h => by cases h; exact .bl b
  | .int i, _, h => by cases h; exact .int i
  | .str x, _, h => by cases h; exact .str x
  | .tuple ds, _, h => by
    cases h with
    | tup e r => exact .tup (tup_of e) (TpAll.dp r)
  | .list _, _, h => by cases h
  | .dict _, _, h => by cases h
theorem TpAll.dp {K : PySem.W.Frag} {H : Hp} : ∀ {ds : List PyData} {vs : List V}, TpAll H vs ds → DpAll K H vs ds
  | [], _, h => by cases h; exact .nil
  | d :: ds, _, h => by
    cases h with
    | cons h1 h2 => exact .cons (Tp.dp h1) (TpAll.dp h2)
end
theorem TpAll.get {H : Hp} : ∀ {vs : List V} {ds : List PyData} {i : Nat} {d : PyData}, TpAll H vs ds → ds[i]? = some d → ∃ v, vs[i]? = some v ∧ Tp H v d
  | _, _, _, _, .nil, h => by cases h
  | _, _, 0, _, .cons h1 _, h => by
    cases h
    exact ⟨_, rfl, h1⟩
  | _, _, i + 1, _, .cons _ h2, h => by
    obtain ⟨v, e, q⟩ := TpAll.get h2 (i := i) h
    exact ⟨v, e, q⟩
theorem TpAll.length {H : Hp} : ∀ {vs : List V} {ds : List PyData}, TpAll H vs ds → vs.length = ds.length
  | _, _, .nil => rfl
  | _, _, .cons _ h => by rw [List.length_cons, List.length_cons, h.length]
/-- a def that is never called so -/
theorem cal_never {P : Program} {w : World} {K : PySem.W.Frag} {mg : Str → Option Value} {base : Heap} {x : Str} {st : Stmt} {ps : List Str} {k : Nat} {sp : Sp} (F : DefOk K mg x st)
    (hb : ∀ f fd, FunD K x x (defArgs st) (defBody st) (defScope st) [] [] f fd → Binds K fd ps []) (no : ∀ vs H Q E, ¬ sp vs H Q E) : C8.Cal P w K mg base k x sp [] := by
  obtain ⟨f, fd, F, hm⟩ := F.ex
  exact ⟨f, fd, ps, [], ⟨fun vs H Q E h => absurd h (no _ _ _ _), fun A outer s H args us vs Q E hr he hb hv h => absurd h (no _ _ _ _)⟩, hm, F.kp, hb f fd F, .nil⟩
end Wy
open Wy
namespace W6
open PySem PySem.Spec PyProof.Rows L2 Wy
theorem uu {a c : Nat} (h : a + 64 < c) : a + 1 < c := by omega
/-! ### a table of the top: texts to tuples -/
def rKd (K : PySem.W.Frag) (d : Addr) : R2 := fun x y H Q => ∃ (z : Str) (u0 : Value) (v0 : V), x = .ref d ∧ y = .str z ∧ PySem.W.nsIn K d z = some (some u0) ∧ RelV v0 u0 ∧ Q v0 H
theorem pe_kd {X : Cx} {d : Addr} {es : Array DictEntry} {n : Nat} {o i : Expr} {pos : Pos} {td ty : TE} (D : KDict X.K X.w d es n) (ho : PE X o td) (hi : PE X i ty) (hs : NoSl i) : PE X (.Subscript o i pos) (tOp (rKd X.K d) td ty) := by
  refine ⟨fun pins s σ H Q I h => ?_⟩
  refine subD_of PySem.F.slot_dict_getitem.lookup hs (thn (ho.run pins s σ H _ I h) fun u s1 ⟨x, H1, I1, rx, q1⟩ => thn (hi.run pins s1 σ H1 _ I1 q1) fun iv s2 ⟨y, H2, I2, ry, q2⟩ => ?_)
  have q3 := q2
  obtain ⟨z, u0, v0, ex, ey, e, r, q⟩ := q2
  subst ex
  have ru : u = Value.ref d := rx
  subst ru
  exact ⟨kd_type D I2, op_item_kd D pins s2 σ H2 (.ref d) y _ iv Q I2 rfl ry q3⟩
def tupAt (K : PySem.W.Frag) (o : Option Obj) (vs : List V) : Bool := match o with
  | some ⟨.type c, none, .seq its _, _⟩ => decide (c = "tuple") && (decide (its.size ≤ sizeLine) && He.relAll vs its.toList)
  | _ => false
def keyB (K : PySem.W.Frag) (d : Addr) (z : Str) (vs : List V) : Bool := match PySem.W.nsIn K d z with
  | some (some (.ref t)) => tupAt K (K.lookup t) vs
  | _ => false
theorem tupAt_ok {K : PySem.W.Frag} {t : Addr} {vs : List V} (h : tupAt K (K.lookup t) vs = true) (H : Hp) : SqT K H t vs := by
  unfold tupAt at h
  split at h
  · rename_i c its n sl e
    obtain ⟨h1, h2⟩ := He.ba h
    obtain ⟨h3, h4⟩ := He.ba h2
    exact .inr ⟨_, its, n, e, congrArg Value.type (of_decide_eq_true h1), rfl, of_decide_eq_true h3, He.relAll_ok h4⟩
  · cases h
theorem keyB_ok {K : PySem.W.Frag} {d : Addr} {z : Str} {vs : List V} (h : keyB K d z vs = true) : ∃ t, PySem.W.nsIn K d z = some (some (.ref t)) ∧ ∀ H, SqT K H t vs := by
  unfold keyB at h
  split at h
  · rename_i t e
    exact ⟨t, e, fun H => tupAt_ok h H⟩
  · cases h
theorem o_kd {K : PySem.W.Frag} {H : Hp} {Q : VK} {d t : Addr} {z : Str} (e : PySem.W.nsIn K d z = some (some (.ref t))) (q : Q (.ref t) H) : rKd K d (.ref d) (.str z) H Q := ⟨z, _, .ref t, rfl, rfl, e, rfl, q⟩
def rTup (K : PySem.W.Frag) : List V → Hp → VK → Prop := fun xs H Q => ∃ p ys, xs = [.ref p] ∧ ((SqL K H p ys ∧ ∀ l, H l = none → Q (.ref l) (upd H l (.tup ys))) ∨ (SqT K H p ys ∧ Q (.ref p) H))
theorem call_tup2 {X : Cx} : CallR X (.type "tuple") (rTup X.K) := call_tuple_of
theorem b_tup {K : PySem.W.Frag} {H : Hp} {Q : VK} {a : Addr} {xs : List V} (hs : SqL K H a xs) (h : ∀ p H2, H p = none → Same H H2 → H2 p = some (.tup xs) → Q (.ref p) H2) : rTup K [.ref a] H Q := ⟨a, xs, rfl, .inl ⟨hs, new_same h⟩⟩
end W6
namespace WD
open PySem PySem.Spec PyProof.Rows L2 Wy
theorem uu {a c : Nat} (h : a + 64 < c) : a + 1 < c := by omega
/-! ### dicts of texts -/
def rLnD : List V → Hp → VK → Prop := fun xs H Q => ∃ a kvs, xs = [.ref a] ∧ H a = some (.dK kvs) ∧ Q (.int (kvs.length : Nat)) H
theorem call_lenD {X : Cx} : CallR X (.builtin "len") rLnD := by
  intro pins s σ H xs us Q I r h
  obtain ⟨p, kvs, rfl, hk, q⟩ := h
  obtain ⟨u, eu, rx⟩ := vals1 r
  subst eu
  obtain rfl : u = Value.ref p := rx
  exact d_len I (.inl hk) fun t s' I' => ⟨.int (kvs.length : Nat), H, I', ⟨t, rfl⟩, q⟩
section
variable {K : PySem.W.Frag} {σ : L2.St} {H : Hp} {Q : VK} {td ty tv : TE} {D : Ends}
def KD (x y : V) (H : Hp) (Q : VK) : Prop := ∃ a v, x = .ref a ∧ DGet H a y (some v) ∧ Q v H
def KP (v x y : V) (σ : L2.St) (H : Hp) (N : L2.St → Hp → Prop) : Prop := ∃ a H4, x = .ref a ∧ DPut H a y v H4 ∧ N σ H4
theorem e_dnew (h : ∀ p H2, H p = none → Same H H2 → H2 p = some (.dK []) → Q (.ref p) H2) : tDNewK σ H Q := new_same h
theorem e_dget (h : td σ H fun x H1 => ty σ H1 fun y H2 => KD x y H2 Q) : tDGet td ty σ H Q := h
theorem k_d {a : Addr} {kvs : List (Key × V)} {n : Str} {v : V} (e : H a = some (.dK kvs)) (g : valV kvs (.inr n) = some v) (h : Q v H) : KD (.ref a) (.str n) H Q :=
  ⟨a, v, rfl, g ▸ DGet.k (k := .inr n) e, h⟩
theorem s_dput (h : tv σ H fun v H1 => td σ H1 fun x H2 => ty σ H2 fun y H3 => KP v x y σ H3 D.nx) : sDPut td ty tv D σ H := h
theorem k_p {a : Addr} {kvs : List (Key × V)} {n : Str} {v : V} {N : L2.St → Hp → Prop} (e : H a = some (.dK kvs)) (hl : kvs.length < sizeLine) (h : ∀ H2, Chg a H H2 → H2 a = some (.dK (putK kvs (.inr n) v)) → N σ H2) :
    KP v (.ref a) (.str n) σ H N := ⟨a, _, rfl, DPut.k (k := .inr n) e hl, h _ chg_upd upd_same⟩
theorem b_lenD {a : Addr} {kvs : List (Key × V)} (e : H a = some (.dK kvs)) (h : Q (.int (kvs.length : Nat)) H) : rLnD [.ref a] H Q := ⟨a, kvs, rfl, e, h⟩
theorem b_lstD {a : Addr} {kvs : List (Key × V)} (e : H a = some (.dK kvs)) (h : ∀ p H2, H p = none → Same H H2 → H2 p = some (.lst (kvs.map fun kv => kV kv.1)) → Q (.ref p) H2) : rListD [.ref a] H Q := ⟨a, kvs, rfl, e, new_same h⟩
def rTup (K : PySem.W.Frag) : List V → Hp → VK → Prop := fun xs H Q => ∃ p ys, xs = [.ref p] ∧ ((SqL K H p ys ∧ ∀ l, H l = none → Q (.ref l) (upd H l (.tup ys))) ∨ (SqT K H p ys ∧ Q (.ref p) H))
theorem call_tup2 {X : Cx} : CallR X (.type "tuple") (rTup X.K) := call_tuple_of
theorem b_tup {a : Addr} {xs : List V} (hs : SqL K H a xs) (h : ∀ p H2, H p = none → Same H H2 → H2 p = some (.tup xs) → Q (.ref p) H2) : rTup K [.ref a] H Q := ⟨a, xs, rfl, .inl ⟨hs, new_same h⟩⟩
theorem m_idx {a : Addr} {ys : List V} {y : V} {j : Nat} {z : V} (hs : SqL K H a ys) (f1 : flatV y = true) (f2 : ys.all flatV = true) (g : ys[j]? = some z) (e : eqV z y = true)
    (no : ∀ (m : Nat) (z' : V), m < j → ys[m]? = some z' → eqV z' y = false) (h : Q (.int (j : Nat)) H) : rIndex K (.ref a) [y] H Q := ⟨a, ys, y, j, z, rfl, rfl, hs, f1, f2, g, e, no, h⟩
end
/-- the names with their values, as far as there are values -/
def kv (ns : List Str) (vs : List V) : List (Key × V) := (ns.zip vs).map fun p => (.inr p.1, p.2)
theorem kv_len {ns : List Str} {vs : List V} (h : vs.length ≤ ns.length) : (kv ns vs).length = vs.length := by
  unfold kv
  rw [List.length_map, List.length_zip]
  omega
theorem kv_get : ∀ {ns : List Str} {vs : List V} {j : Nat} {n : Str} {v : V}, ns.Nodup → ns[j]? = some n → vs[j]? = some v → valV (kv ns vs) (.inr n) = some v
  | [], _, _, _, _, _, h, _ => by cases h
  | _ :: _, [], _, _, _, _, _, h => by cases h
  | m :: ns, u :: vs, 0, n, v, _, h1, h2 => by
    cases h1
    cases h2
    exact valV_pos (p := (Sum.inr m, u)) rfl
  | m :: ns, u :: vs, j + 1, n, v, hd, h1, h2 => by
    have h1 : ns[j]? = some n := h1
    have h2 : vs[j]? = some v := h2
    have hd := List.nodup_cons.mp hd
    have ne : ¬ (Sum.inr m : Key) = Sum.inr n := fun e => hd.1 (by
      have e2 : m = n := Sum.inr.inj e
      rw [e2]
      exact List.mem_of_getElem? h1)
    exact (valV_neg (p := (Sum.inr m, u)) ne).trans (kv_get hd.2 h1 h2)
theorem zip_fst : ∀ (ns : List Str) (vs : List V), (ns.zip vs).map Prod.fst = ns.take vs.length
  | [], _ => by simp
  | _ :: _, [] => rfl
  | n :: ns, _ :: vs => congrArg (n :: ·) (zip_fst ns vs)
theorem zip_cut : ∀ (ns : List Str) (vs : List V), ns.zip vs = (ns.take vs.length).zip vs
  | [], _ => by simp
  | _ :: _, [] => rfl
  | n :: ns, v :: vs => congrArg ((n, v) :: ·) (zip_cut ns vs)
theorem kv_any {ns : List Str} {vs : List V} {n : Str} : ((kv ns vs).any fun p => decide (p.1 = (.inr n : Key))) = true ↔ n ∈ (ns.take vs.length) := by
  unfold kv
  rw [List.any_map, List.any_eq_true]
  constructor
  · rintro ⟨⟨a, b⟩, hm, h⟩
    have h : (Sum.inr a : Key) = Sum.inr n := of_decide_eq_true h
    have e : a = n := Sum.inr.inj h
    subst e
    have : a ∈ (ns.zip vs).map Prod.fst := List.mem_map.mpr ⟨_, hm, rfl⟩
    rw [zip_fst] at this
    exact this
  · intro h
    have : n ∈ (ns.zip vs).map Prod.fst := by
      rw [zip_fst]
      exact h
    obtain ⟨⟨a, b⟩, hm, e⟩ := List.mem_map.mp this
    exact ⟨(a, b), hm, decide_eq_true (by rw [← e])⟩
theorem kv_new {ns : List Str} {vs : List V} {n : Str} {v : V} (hd : ns.Nodup) (h : ns[vs.length]? = some n) : putK (kv ns vs) (.inr n) v = kv ns (vs ++ [v]) := by
  have no : n ∉ ns.take vs.length := by
    intro hm
    obtain ⟨i, hi, e⟩ := List.getElem_of_mem hm
    obtain ⟨hl, e2⟩ := List.getElem?_eq_some_iff.mp h
    rw [List.length_take] at hi
    rw [List.getElem_take] at e
    have := (List.getElem_inj hd).mp (e.trans e2.symm)
    omega
  unfold putK
  rw [if_neg (fun e => no (kv_any.mp e))]
  unfold kv
  obtain ⟨hl, e2⟩ := List.getElem?_eq_some_iff.mp h
  have e3 : ns = ns.take vs.length ++ n :: ns.drop (vs.length + 1) := by
    rw [← e2, List.getElem_cons_drop, List.take_append_drop]
  have e4 : ns.zip vs = (ns.take vs.length).zip vs := zip_cut ns vs
  have l1 : (ns.take vs.length).length = vs.length := by rw [List.length_take]; omega
  have e5 : ns.zip (vs ++ [v]) = (ns.take vs.length).zip vs ++ [(n, v)] := by
    conv => lhs; rw [e3]
    rw [List.zip_append l1]
    simp
  rw [e4, e5, List.map_append]
  rfl
theorem kv_set : ∀ {ns : List Str} {vs : List V} {j : Nat} {n : Str} {v : V}, ns.Nodup → ns[j]? = some n → j < vs.length → (kv ns vs).map (fun p => if p.1 = (.inr n : Key) then (p.1, v) else p) = kv ns (vs.set j v)
  | [], _, _, _, _, _, h, _ => by cases h
  | _ :: _, [], _, _, _, _, _, h => absurd h (Nat.not_lt_zero _)
  | m :: ns, u :: vs, 0, n, v, hd, h1, h2 => by
    cases h1
    have hd := List.nodup_cons.mp hd
    show (if (Sum.inr m : Key) = Sum.inr m then _ else _) :: _ = (_ :: _ : List (Key × V))
    rw [if_pos rfl]
    refine congrArg (_ :: ·) ?_
    refine (List.map_congr_left fun p hp => ?_).trans (List.map_id _)
    obtain ⟨⟨a, b⟩, hm, e⟩ := List.mem_map.mp hp
    rw [if_neg ?_]
    · rfl
    · rw [← e]
      intro e2
      exact hd.1 (Sum.inr.inj e2 ▸ (List.of_mem_zip hm).1)
  | m :: ns, u :: vs, j + 1, n, v, hd, h1, h2 => by
    have h1 : ns[j]? = some n := h1
    have hd := List.nodup_cons.mp hd
    have ne : ¬ (Sum.inr m : Key) = Sum.inr n := fun e => hd.1 (by
      have e2 : m = n := Sum.inr.inj e
      rw [e2]
      exact List.mem_of_getElem? h1)
    show (if (Sum.inr m : Key) = Sum.inr n then _ else _) :: _ = (_ :: _ : List (Key × V))
    rw [if_neg ne]
    exact congrArg (_ :: ·) (kv_set hd.2 h1 (Nat.lt_of_succ_lt_succ h2))
theorem kv_put {ns : List Str} {vs : List V} {j : Nat} {n : Str} {v : V} (hd : ns.Nodup) (h : ns[j]? = some n) (hj : j < vs.length) : putK (kv ns vs) (.inr n) v = kv ns (vs.set j v) := by
  obtain ⟨hl, e2⟩ := List.getElem?_eq_some_iff.mp h
  have hm : n ∈ ns.take vs.length := by
    rw [← e2]
    exact List.mem_take_iff_getElem.mpr ⟨j, by omega, rfl⟩
  unfold putK
  rw [if_pos (kv_any.mpr hm)]
  exact kv_set hd h hj
theorem kv_keys {ns : List Str} {vs : List V} (h : vs.length = ns.length) : (kv ns vs).map (fun p => kV p.1) = ns.map V.str := by
  unfold kv
  rw [List.map_map]
  have : ((fun p : Key × V => kV p.1) ∘ fun p : Str × V => ((.inr p.1 : Key), p.2)) = V.str ∘ Prod.fst := rfl
  rw [this, ← List.map_map, List.map_fst_zip (by omega)]
/-! ### the questions and their answers -/
inductive X9 where
  | num (n : Int)
  | var (k : Nat) (p : Int)
  | item (j : Nat) (i : X9) (p : Int)
abbrev nm (ns : List Str) (k : Nat) : Str := ns.getD k ""
def X9.d (ns : List Str) : X9 → PyData
  | .num n => .tuple [.str "num", .int n]
  | .var k p => .tuple [.str "var", .str (nm ns k), .int p]
  | .item j i p => .tuple [.str "item", .str (nm ns (4 + j)), i.d ns, .int p]
def X9.plain : X9 → Prop
  | .num _ => True
  | .var k _ => k < 4
  | .item _ _ _ => False
def X9.good : X9 → Prop
  | .num _ => True
  | .var k _ => k < 4
  | .item j i _ => j < 2 ∧ i.plain
theorem X9.plain.good {e : X9} (h : e.plain) : e.good := by
  cases e with
  | num _ => exact True.intro
  | var _ _ => exact h
  | item _ _ _ => exact h.elim
def X9.dep : X9 → Nat
  | .item _ _ _ => 1
  | _ => 0
theorem X9.plain.dep {e : X9} (h : e.plain) : e.dep = 0 := by
  cases e with
  | num _ => rfl
  | var _ _ => rfl
  | item _ _ _ => exact h.elim
theorem X9.dep_le (e : X9) : e.dep < 2 := by
  cases e <;> simp [X9.dep]
def X9.ev (is : List Int) (ls : List (List Int)) : X9 → Option Int
  | .num n => some n
  | .var k p => some (is.getD k 0 + p)
  | .item j i p => match i.ev is ls with
    | none => none
    | some a => if 0 ≤ a ∧ a < (ls.getD j []).length then some ((ls.getD j []).getD a.toNat 0 + p) else none
def oI : Option Int → V
  | none => .non
  | some i => .int i
def oB : Option Bool → V
  | none => .non
  | some b => .bl b
theorem X9.plain.ev {e : X9} (h : e.plain) (is : List Int) (ls : List (List Int)) : ∃ i, e.ev is ls = some i := by
  cases e with
  | num n => exact ⟨n, rfl⟩
  | var k p => exact ⟨_, rfl⟩
  | item _ _ _ => exact h.elim
abbrev SG : List Str := ["<", "<=", ">", ">=", "==", "!="]
def cmpB : Nat → Int → Int → Bool
  | 0, a, b => decide (a < b)
  | 1, a, b => decide (a ≤ b)
  | 2, a, b => decide (a > b)
  | 3, a, b => decide (a ≥ b)
  | 4, a, b => decide (a = b)
  | _, a, b => !decide (a = b)
inductive Cn where
  | cmp (k : Nat) (l r : X9)
  | no (c : Cn)
  | jn (o : Bool) (cs : List Cn)
abbrev jw (o : Bool) : Str := if o then "or" else "and"
mutual
def Cn.d (ns : List Str) : Cn → PyData
  | .cmp k l r => .tuple [.str "cmp", .str (SG.getD k ""), l.d ns, r.d ns]
  | .no c => .tuple [.str "not", c.d ns]
  | .jn o cs => .tuple [.str (jw o), .tuple (Cn.ds ns cs)]
def Cn.ds (ns : List Str) : List Cn → List PyData
  | [] => []
  | c :: cs => c.d ns :: Cn.ds ns cs
end
mutual
def Cn.ok : Nat → Cn → Prop
  | _, .cmp k l r => k < 6 ∧ l.good ∧ r.good
  | 0, .no _ => False
  | n + 1, .no c => c.ok n
  | 0, .jn _ _ => False
  | n + 1, .jn _ cs => Cn.oks n cs
def Cn.oks : Nat → List Cn → Prop
  | _, [] => True
  | n, c :: cs => c.ok n ∧ Cn.oks n cs
end
def cmpO (k : Nat) : Option Int → Option Int → Option Bool
  | some a, some b => some (cmpB k a b)
  | _, _ => none
mutual
def Cn.ev (is : List Int) (ls : List (List Int)) : Cn → Option Bool
  | .cmp k l r => cmpO k (l.ev is ls) (r.ev is ls)
  | .no c => (c.ev is ls).map fun b => !b
  | .jn o cs => Cn.evs is ls o cs
def Cn.evs (is : List Int) (ls : List (List Int)) (o : Bool) : List Cn → Option Bool
  | [] => some (!o)
  | c :: cs => match c.ev is ls with
    | none => none
    | some b => if b = o then some b else Cn.evs is ls o cs
end
theorem Cn.ds_get {ns : List Str} : ∀ {cs : List Cn} {i : Nat} {c : Cn}, cs[i]? = some c → (Cn.ds ns cs)[i]? = some (c.d ns)
  | [], _, _, h => by cases h
  | c :: cs, 0, _, h => by
    cases h
    rfl
  | c :: cs, i + 1, _, h => by
    have h : cs[i]? = some _ := h
    exact Cn.ds_get (cs := cs) (i := i) h
theorem Cn.ds_len {ns : List Str} : ∀ {cs : List Cn}, (Cn.ds ns cs).length = cs.length
  | [] => rfl
  | c :: cs => congrArg (· + 1) Cn.ds_len
theorem Cn.ds_snoc {ns : List Str} {c : Cn} : ∀ {cs : List Cn}, Cn.ds ns (cs ++ [c]) = Cn.ds ns cs ++ [c.d ns]
  | [] => rfl
  | _ :: _ => congrArg (_ :: ·) Cn.ds_snoc
theorem Cn.oks_get {n : Nat} : ∀ {cs : List Cn} {i : Nat} {c : Cn}, Cn.oks n cs → cs[i]? = some c → c.ok n
  | [], _, _, _, h => by cases h
  | c :: cs, 0, _, g, h => by
    cases h
    exact g.1
  | c :: cs, i + 1, _, g, h => by
    have h : cs[i]? = some _ := h
    exact Cn.oks_get g.2 h
theorem Cn.oks_snoc {n : Nat} {c : Cn} : ∀ {cs : List Cn}, Cn.oks n cs → c.ok n → Cn.oks n (cs ++ [c])
  | [], _, h => ⟨h, True.intro⟩
  | _ :: _, g, h => ⟨g.1, Cn.oks_snoc g.2 h⟩
theorem Cn.evs_drop {is : List Int} {ls : List (List Int)} {o : Bool} {cs : List Cn} {i : Nat} {c : Cn} (h : cs[i]? = some c) :
    Cn.evs is ls o (cs.drop i) = match c.ev is ls with | none => none | some b => if b = o then some b else Cn.evs is ls o (cs.drop (i + 1)) := by
  obtain ⟨hl, e⟩ := List.getElem?_eq_some_iff.mp h
  rw [List.drop_eq_getElem_cons hl, e]
  rfl
/-! ### the parts of the data -/
theorem tp4 {H : Hp} {v : V} {d1 d2 d3 d4 : PyData} (h : Tp H v (.tuple [d1, d2, d3, d4])) : ∃ a v1 v2 v3 v4, v = .ref a ∧ H a = some (.tup [v1, v2, v3, v4]) ∧ Tp H v1 d1 ∧ Tp H v2 d2 ∧ Tp H v3 d3 ∧ Tp H v4 d4 := by
  cases h with
  | tup e r =>
    cases r with | cons h1 r => cases r with | cons h2 r => cases r with | cons h3 r => cases r with | cons h4 r =>
      cases r
      exact ⟨_, _, _, _, _, rfl, e, h1, h2, h3, h4⟩
theorem tp3 {H : Hp} {v : V} {d1 d2 d3 : PyData} (h : Tp H v (.tuple [d1, d2, d3])) : ∃ a v1 v2 v3, v = .ref a ∧ H a = some (.tup [v1, v2, v3]) ∧ Tp H v1 d1 ∧ Tp H v2 d2 ∧ Tp H v3 d3 := by
  cases h with
  | tup e r =>
    cases r with | cons h1 r => cases r with | cons h2 r => cases r with | cons h3 r =>
      cases r
      exact ⟨_, _, _, _, rfl, e, h1, h2, h3⟩
theorem tp2 {H : Hp} {v : V} {d1 d2 : PyData} (h : Tp H v (.tuple [d1, d2])) : ∃ a v1 v2, v = .ref a ∧ H a = some (.tup [v1, v2]) ∧ Tp H v1 d1 ∧ Tp H v2 d2 := by
  cases h with
  | tup e r =>
    cases r with | cons h1 r => cases r with | cons h2 r =>
      cases r
      exact ⟨_, _, _, rfl, e, h1, h2⟩
theorem tpL {H : Hp} {v : V} {ds : List PyData} (h : Tp H v (.tuple ds)) : ∃ a vs, v = .ref a ∧ H a = some (.tup vs) ∧ TpAll H vs ds := by
  cases h with
  | tup e r => exact ⟨_, _, rfl, e, r⟩
theorem tp_str {H : Hp} {v : V} {x : Str} (h : Tp H v (.str x)) : v = .str x := by
  cases h
  rfl
theorem tp_int {H : Hp} {v : V} {x : Int} (h : Tp H v (.int x)) : v = .int x := by
  cases h
  rfl
theorem tpSnoc {H : Hp} {v : V} {d : PyData} : ∀ {vs : List V} {ds : List PyData}, TpAll H vs ds → Tp H v d → TpAll H (vs ++ [v]) (ds ++ [d])
  | _, _, .nil, h => .cons h .nil
  | _, _, .cons h1 h2, h => .cons h1 (tpSnoc h2 h)
/-! ### the variables -/
def CellAt (H : Hp) (is : List Int) (ls : List (List Int)) (j : Nat) (v : V) : Prop :=
  (∃ x, is[j]? = some x ∧ v = .int x) ∨ ∃ a xs, 4 ≤ j ∧ ls[j - 4]? = some xs ∧ v = .ref a ∧ H a = some (.lst (xs.map V.int))
theorem CellAt.same {H H' : Hp} {is : List Int} {ls : List (List Int)} {j : Nat} {v : V} (s : Same H H') (c : CellAt H is ls j v) : CellAt H' is ls j v := by
  rcases c with c | ⟨a, xs, h1, h2, h3, h4⟩
  · exact .inl c
  · exact .inr ⟨a, xs, h1, h2, h3, s _ _ h4⟩
def EnvAt (H : Hp) (p : Addr) (ns : List Str) (is : List Int) (ls : List (List Int)) : Prop :=
  is.length = 4 ∧ ls.length = 2 ∧ ns.length = 6 ∧ ns.Nodup ∧ ∃ vs : List V, vs.length = 6 ∧ H p = some (.dK (kv ns vs)) ∧ ∀ j v, vs[j]? = some v → CellAt H is ls j v
theorem EnvAt.same {H H' : Hp} {p : Addr} {ns : List Str} {is : List Int} {ls : List (List Int)} (s : Same H H') (e : EnvAt H p ns is ls) : EnvAt H' p ns is ls := by
  obtain ⟨h1, h2, h3, h4, vs, h5, h6, h7⟩ := e
  exact ⟨h1, h2, h3, h4, vs, h5, s _ _ h6, fun j v g => (h7 j v g).same s⟩
theorem nm_at {ns : List Str} {k : Nat} (h : k < ns.length) : ns[k]? = some (nm ns k) := by
  unfold nm
  rw [List.getD_eq_getElem?_getD, List.getElem?_eq_getElem h]
  rfl
/-- a number out of the variables -/
theorem EnvAt.int {H : Hp} {p : Addr} {ns : List Str} {is : List Int} {ls : List (List Int)} (e : EnvAt H p ns is ls) {k : Nat} (hk : k < 4) : ∃ kvs, H p = some (.dK kvs) ∧ valV kvs (.inr (nm ns k)) = some (.int (is.getD k 0)) := by
  obtain ⟨h1, h2, h3, h4, vs, h5, h6, h7⟩ := e
  have g : vs[k]? = some vs[k] := List.getElem?_eq_getElem (by omega)
  refine ⟨_, h6, ?_⟩
  have e := kv_get h4 (nm_at (by omega)) g
  rw [e]
  rcases h7 k _ g with ⟨x, c1, c2⟩ | ⟨a, xs, c1, _⟩
  · rw [c2, List.getD_eq_getElem?_getD, c1]
    rfl
  · omega
theorem EnvAt.lst {H : Hp} {p : Addr} {ns : List Str} {is : List Int} {ls : List (List Int)} (e : EnvAt H p ns is ls) {j : Nat} (hj : j < 2) :
    ∃ kvs a, H p = some (.dK kvs) ∧ valV kvs (.inr (nm ns (4 + j))) = some (.ref a) ∧ H a = some (.lst ((ls.getD j []).map V.int)) := by
  obtain ⟨h1, h2, h3, h4, vs, h5, h6, h7⟩ := e
  have g : vs[4 + j]? = some vs[4 + j] := List.getElem?_eq_getElem (by omega)
  have e := kv_get h4 (nm_at (by omega)) g
  rcases h7 _ _ g with ⟨x, c1, c2⟩ | ⟨a, xs, c1, c2, c3, c4⟩
  · have := (List.getElem?_eq_some_iff.mp c1).1
    omega
  · refine ⟨_, a, h6, by rw [e, c3], ?_⟩
    have e2 : ls.getD j [] = xs := by
      rw [List.getD_eq_getElem?_getD]
      rw [show 4 + j - 4 = j by omega] at c2
      rw [c2]
      rfl
    rw [e2]
    exact c4
/-! ### the names -/
abbrev PADS : List Str := ["", "u", "zzzzzzzzzzz", "uz"]
def let9 (k : Nat) : Str := ⟨#[("abcdxy" : Str).cps.toList.getD k 0]⟩
def namesOf (k : Nat) : List Str := (PADS.map fun p => let9 k ++ p) ++ PADS.map fun p => p ++ let9 k
theorem names_apart : ∀ i, i < 6 → ∀ j, j < 6 → i ≠ j → ∀ x ∈ namesOf i, ∀ y ∈ namesOf j, x ≠ y := by decide +kernel
def NamesOk (ns : List Str) : Prop := ∀ i n, ns[i]? = some n → n ∈ namesOf i
theorem names_nodup {ns : List Str} (h : NamesOk ns) (hl : ns.length ≤ 6) : ns.Nodup := by
  rw [List.nodup_iff_pairwise_ne, List.pairwise_iff_getElem]
  intro i j hi hj lt
  exact names_apart i (by omega) j (by omega) (by omega) _ (h i _ (List.getElem?_eq_getElem hi)) _ (h j _ (List.getElem?_eq_getElem hj))
end WD
/-! WN: more rules and steps. -/
namespace WN
open PySem PySem.Spec PyProof.Rows L2 Wy
theorem sm {H H' : Hp} {a : Addr} {o : HO} (s : Same H H') (h : H a = some o) : H' a = some o := s _ _ h
theorem cm {l : Addr} {H H' : Hp} {a : Addr} {o : HO} (c : Chg l H H') (n : a ≠ l) (h : H a = some o) : H' a = some o := c.at h n
theorem ne_new {H : Hp} {a l : Addr} {o : HO} (n : H l = none) (h : H a = some o) : a ≠ l := ne_of_none h n
theorem iteTT {b : Bool} {A B : Prop} (e : b = true) (h : A) : if b = true then A else B := by
  rw [if_pos e]
  exact h
theorem iteFF {b : Bool} {A B : Prop} (e : b = false) (h : B) : if b = true then A else B := by
  rw [if_neg (by rw [e]; exact Bool.false_ne_true)]
  exact h
theorem iteB {b : Bool} {A B : Prop} (h1 : b = true → A) (h2 : b = false → B) : if b = true then A else B := by
  cases b with
  | true => exact iteTT rfl (h1 rfl)
  | false => exact iteFF rfl (h2 rfl)
/-- a decided question -/
theorem iteD {p : Prop} [Decidable p] {A B : Prop} (h1 : p → A) (h2 : ¬ p → B) : if decide p = true then A else B := ite2 (fun e => h1 (of_decide_eq_true e)) fun e => h2 fun x => e (decide_eq_true x)
theorem iteND {p : Prop} [Decidable p] {A B : Prop} (h1 : ¬ p → A) (h2 : p → B) : if (!decide p) = true then A else B := by
  by_cases h : p
  · exact iteFF (by rw [decide_eq_true h]; rfl) (h2 h)
  · exact iteTT (by rw [decide_eq_false h]; rfl) (h1 h)
theorem nRN (a : Addr) : decide (V.ref a = V.non) = false := decide_eq_false (fun e => nomatch e)
theorem nIN (a : Int) : decide (V.int a = V.non) = false := decide_eq_false (fun e => nomatch e)
theorem nSN (a : Str) : decide (V.str a = V.non) = false := decide_eq_false (fun e => nomatch e)
theorem nBN (a : Bool) : decide (V.bl a = V.non) = false := decide_eq_false (fun e => nomatch e)
theorem nNRN (a : Addr) : (!decide (V.ref a = V.non)) = true := by rw [nRN]; rfl
theorem nNIN (a : Int) : (!decide (V.int a = V.non)) = true := by rw [nIN]; rfl
theorem nNSN (a : Str) : (!decide (V.str a = V.non)) = true := by rw [nSN]; rfl
theorem nNBN (a : Bool) : (!decide (V.bl a = V.non)) = true := by rw [nBN]; rfl
theorem dI (a b : Int) : decide (V.int a = V.int b) = decide (a = b) := by
  by_cases h : a = b
  · subst h
    rw [decide_eq_true rfl, decide_eq_true rfl]
  · rw [decide_eq_false h, decide_eq_false (fun e => h (V.int.inj e))]
theorem iteI {i j : Int} {A B : Prop} (h1 : i = j → A) (h2 : ¬ i = j → B) : if decide (V.int i = V.int j) = true then A else B := by
  rw [dI]
  exact iteD h1 h2
theorem iteNI {i j : Int} {A B : Prop} (h1 : ¬ i = j → A) (h2 : i = j → B) : if (!decide (V.int i = V.int j)) = true then A else B := by
  rw [dI]
  exact iteND h1 h2
theorem free_of {H H' : Hp} {a : Addr} (n : H' a = none) (s : Same H H') : H a = none := s.free n
theorem dB (a b : Bool) : decide (V.bl a = V.bl b) = decide (a = b) := by cases a <;> cases b <;> rfl
section
variable {X : Cx}
def rAll2 (K : PySem.W.Frag) : List V → Hp → VK → Prop := rAll K
theorem call_all2 (hc : X.calm = true) : CallR X (.builtin "all") (rAll2 X.K) := cr_all hc
def rSum2 (K : PySem.W.Frag) : List V → Hp → VK → Prop := rSum K
theorem call_sum2 (hc : X.calm = true) : CallR X (.builtin "sum") (rSum2 X.K) := cr_sum hc
def rMx2 (_ : PySem.W.Frag) : List V → Hp → VK → Prop := fun xs H Q => ∃ i j, xs = [.int i, .int j] ∧ Q (.int (if j > i then j else i)) H
theorem call_mx2 (hc : X.calm = true) : CallR X (.builtin "max") (rMx2 X.K) := call_max2 hc
def rMn2 (_ : PySem.W.Frag) : List V → Hp → VK → Prop := fun xs H Q => ∃ i j, xs = [.int i, .int j] ∧ Q (.int (if j < i then j else i)) H
theorem call_mn2 (hc : X.calm = true) : CallR X (.builtin "min") (rMn2 X.K) := call_min2 hc
def rIsi2 (K : PySem.W.Frag) : List V → Hp → VK → Prop := fun xs H Q => rIsi K xs H Q ∨ rIsiT K xs H Q
theorem call_isi2 : CallR X (.builtin "isinstance") (rIsi2 X.K) := Wy.CallR.or call_isi call_isiT
/-- a call of a built-in that wants calm -/
theorem pe_callC {id : String} {x : Str} {e : Expr} {es : List Expr} {p pos : Pos} {t : TA} {r : PySem.W.Frag → List V → Hp → VK → Prop} (hc : ∀ X : Cx, X.calm = true → CallR X (.builtin id) (r X.K)) (hg : Gl X x) (hm : X.mg x = none) (hv : bootBuiltins x = some (.builtin id)) (ha : PA X (e :: es) t) (hcalm : X.calm = true := by rfl) (hn : x ≠ "__name__" := by decide) (hdb : (x == ("__debug__" : Str)) = false := by decide)
    (he : starEach (e :: es) X.env = (false, eval e X.env) :: starEach es X.env := by rfl) (hpl : (backTo pos (starEach es X.env)).any (·.1) = false := by rfl) : PE X (.Call (.Name x p) (e :: es) [] pos) (tCB (r X.K) t) :=
  pe_callB (hc X hcalm) hg hm hv ha hn hdb he hpl
theorem cc_all (X : Cx) (h : X.calm = true) : CallR X (.builtin "all") (rAll2 X.K) := call_all2 h
theorem cc_sum (X : Cx) (h : X.calm = true) : CallR X (.builtin "sum") (rSum2 X.K) := call_sum2 h
theorem cc_max (X : Cx) (h : X.calm = true) : CallR X (.builtin "max") (rMx2 X.K) := call_mx2 h
theorem cc_min (X : Cx) (h : X.calm = true) : CallR X (.builtin "min") (rMn2 X.K) := call_mn2 h
/-- repr of data -/
def rRepr (K : PySem.W.Frag) : List V → Hp → VK → Prop := fun xs H Q => ∃ (a : Addr) (d : PyData), xs = [.ref a] ∧ Dp K H (.ref a) d ∧ d.showable = true ∧ d.hasDict = false ∧ d.depth ≤ 60 ∧ d.shown.length ≤ sizeLine ∧ Q (.str d.shown) H
end
section
variable {K : PySem.W.Frag} {H : Hp} {Q : VK} {v x y : V} {b : Bool}
theorem o_fdW {f : Int → Int → V} {i j : Int} (h1 : 0 < j) (h2 : j ≤ 10 ^ 90) (h : Q (f i j) H) : rI CDivW f (.int i) (.int j) H Q :=
  ⟨i, j, rfl, rfl, wide_div (b := 400) h1 (by
    have : (10 : Int) ^ 90 < 2 ^ 400 := by decide +kernel
    omega) (by decide) (by decide), h⟩
/-- a rest, its bounds alone -/
theorem o_modG {i j : Int} (h1 : 0 < j) (h : ∀ r : Int, 0 ≤ r → r < j → Q (.int r) H) : rI (fun _ j => 0 < j) (fun i j => .int (i % j)) (.int i) (.int j) H Q := o_mod h1 (h _ (Int.emod_nonneg _ (by omega)) (Int.emod_lt_of_pos _ h1))
theorem b_all {a : Addr} {bs : List Bool} (hs : SqL K H a (bs.map V.bl)) (h : Q (.bl (bs.all id)) H) : rAll2 K [.ref a] H Q := ⟨a, bs, rfl, hs, h⟩
theorem b_sum {a : Addr} {ns : List Int} (hs : SqL K H a (ns.map V.int)) (h : Q (.int ns.sum) H) : rSum2 K [.ref a] H Q := ⟨a, ns, rfl, hs, h⟩
theorem b_mx {i j : Int} (h : Q (.int (max i j)) H) : rMx2 K [.int i, .int j] H Q := ⟨i, j, rfl, by
  have e : (if j > i then j else i) = max i j := by split <;> omega
  rw [e]
  exact h⟩
theorem b_mn {i j : Int} (h : Q (.int (min i j)) H) : rMn2 K [.int i, .int j] H Q := ⟨i, j, rfl, by
  have e : (if j < i then j else i) = min i j := by split <;> omega
  rw [e]
  exact h⟩
theorem b_is2 {n : String} {x : V} {tv : Value} (ty : TyX K H x tv) (h : PySem.W.kitOne K tv (.type n) = some b) (q : Q (.bl b) H) : rIsi2 K [x, .ty n] H Q := .inl (b_isi ty h q)
theorem ls_new {a : Addr} {xs : List V} (hs : SqL K H a xs) (h : ∀ p H2, H p = none → Same H H2 → H2 p = some (.lst xs) → Q (.ref p) H2) : rLst K [.ref a] H Q := ⟨a, xs, rfl, .inl hs, new_same h⟩
theorem ls_newT {a : Addr} {xs : List V} (hs : SqT K H a xs) (h : ∀ p H2, H p = none → Same H H2 → H2 p = some (.lst xs) → Q (.ref p) H2) : rLst K [.ref a] H Q := ⟨a, xs, rfl, .inr hs, new_same h⟩
theorem tp_new {a : Addr} {xs : List V} (hs : SqL K H a xs) (h : ∀ p H2, H p = none → Same H H2 → H2 p = some (.tup xs) → Q (.ref p) H2) : W6.rTup K [.ref a] H Q := W6.b_tup hs h
theorem tp_same {a : Addr} {xs : List V} (hs : SqT K H a xs) (h : Q (.ref a) H) : W6.rTup K [.ref a] H Q := ⟨a, xs, rfl, .inr ⟨hs, h⟩⟩
end
/-! ### draws -/
/-- each draw lies below its size -/
inductive Dr : List Int → List Int → Prop
  | nil : Dr [] []
  | cons {d s : Int} {ds ss : List Int} : 0 ≤ d → d < s → Dr ds ss → Dr (d :: ds) (s :: ss)
theorem Dr.len : ∀ {ds ss : List Int}, Dr ds ss → ds.length = ss.length
  | _, _, .nil => rfl
  | _, _, .cons _ _ h => by rw [List.length_cons, List.length_cons, h.len]
theorem Dr.snoc : ∀ {ds ss : List Int} {d s : Int}, Dr ds ss → 0 ≤ d → d < s → Dr (ds ++ [d]) (ss ++ [s])
  | _, _, _, _, .nil, h1, h2 => .cons h1 h2 .nil
  | _, _, _, _, .cons a b h, h1, h2 => .cons a b (h.snoc h1 h2)
theorem Dr.at : ∀ {ds ss : List Int} {i : Nat} {s : Int}, Dr ds ss → ss[i]? = some s → ∃ d, ds[i]? = some d ∧ 0 ≤ d ∧ d < s
  | _, _, 0, _, .cons a b _, e => by cases e; exact ⟨_, rfl, a, b⟩
  | _, _, i + 1, _, .cons _ _ h, e => h.at (i := i) e
theorem Dr.get {ds ss : List Int} {i : Nat} {d : Int} (h : Dr ds ss) (e : ds[i]? = some d) : ∃ s, ss[i]? = some s ∧ 0 ≤ d ∧ d < s := by
  have hl := h.len
  have hi := (List.getElem?_eq_some_iff.mp e).1
  obtain ⟨d', e', h1, h2⟩ := h.at (i := i) (List.getElem?_eq_getElem (by omega))
  rw [e] at e'
  cases e'
  exact ⟨_, List.getElem?_eq_getElem (by omega), h1, h2⟩
theorem Dr.inv {ds ss : List Int} {s : Int} (h : Dr ds (s :: ss)) : ∃ d r, ds = d :: r ∧ 0 ≤ d ∧ d < s ∧ Dr r ss := by
  cases h with
  | cons h1 h2 h3 => exact ⟨_, _, rfl, h1, h2, h3⟩
theorem Dr.nil_inv {ds : List Int} (h : Dr ds []) : ds = [] := by
  cases h
  rfl
/-- sizes that may be drawn below -/
def SzOk (ss : List Int) : Prop := ss.length ≤ 1000 ∧ ∀ s ∈ ss, 0 < s ∧ s ≤ 10 ^ 80
theorem szOk_of {ss : List Int} (h : (decide (ss.length ≤ 1000) && ss.all fun s => decide (0 < s) && decide (s ≤ 10 ^ 80)) = true) : SzOk ss := by
  simp only [Bool.and_eq_true, decide_eq_true_eq, List.all_eq_true] at h
  exact h
def PR : List Int := [2147483647, 998244353, 1000000007, 1000000009, 4294967291, 1073741789, 536870909, 2305843009213693951]
theorem pr_at {j : Nat} (h : j < 8) : ∃ p, PR[j]? = some p ∧ 0 < p ∧ p < 2 ^ 62 := by
  have : ∀ j, j < 8 → 0 < PR.getD j 0 ∧ PR.getD j 0 < 2 ^ 62 := by decide +kernel
  exact ⟨PR.getD j 0, by rw [List.getD_eq_getElem?_getD, List.getElem?_eq_getElem (by exact h)]; rfl, this j h⟩
theorem ix_pr {K : PySem.W.Frag} {H : Hp} {Q : VK} {a : Addr} {i : Int} (e : H a = some (.lst (PR.map V.int))) (h0 : 0 ≤ i) (h8 : i < 8) (h : ∀ p : Int, 0 < p → p < 2 ^ 62 → Q (.int p) H) : rIx K (.ref a) (.int i) H Q := by
  obtain ⟨p, g, p1, p2⟩ := pr_at (j := i.toNat) (by omega)
  exact o_ixL (lst_of e) (atI_of (j := i.toNat) (by omega) (v := .int p) (by rw [List.getElem?_map, g]; rfl)) (h p p1 p2)
/-- an int out of a list of ints -/
theorem ix_int {K : PySem.W.Frag} {H : Hp} {Q : VK} {a : Addr} {xs : List Int} {i : Int} (hs : SqL K H a (xs.map V.int)) (h0 : 0 ≤ i) (h1 : i < xs.length) (h : ∀ x : Int, xs[i.toNat]? = some x → Q (.int x) H) : rIx K (.ref a) (.int i) H Q := by
  have e := List.getElem?_eq_getElem (l := xs) (i := i.toNat) (by omega)
  exact o_ixL hs (atI_of (j := i.toNat) (by omega) (v := .int xs[i.toNat]) (by rw [List.getElem?_map, e]; rfl)) (h _ e)
def spCellN (K : PySem.W.Frag) : Sp := fun vs H Q _ => ∃ (a : Addr) (ns : List Int) (k : Int), vs = [.ref a, .int k] ∧ SqL K H a (ns.map V.int) ∧ ∀ r : Int, Q (.int r) H
def spDraws (K : PySem.W.Frag) : Sp := fun vs H Q _ => ∃ (a b : Addr) (ns ss : List Int) (k : Int), vs = [.ref a, .int k, .ref b] ∧ SqL K H a (ns.map V.int) ∧ SqL K H b (ss.map V.int) ∧ SzOk ss ∧
  ∀ p H' ds, Same H H' → H p = none → H' p = some (.lst ((ds : List Int).map V.int)) → Dr ds ss → Q (.ref p) H'
/-! ### lists and tuples alike -/
def iSeq (K : PySem.W.Frag) (te : TE) : TI := fun σ H R => iList K te σ H R ∨ iTup K te σ H R
theorem pi_seq {X : Cx} {tg e : Expr} {te : TE} (h : PE X e te) : PI X tg e (iSeq X.K te) := ⟨fun pins s σ H R I q => q.elim (fun q => (pi_list h).run pins s σ H R I q) (fun q => (pi_tup h).run pins s σ H R I q)⟩
theorem w_sl {K : PySem.W.Frag} {te : TE} {σ : L2.St} {H : Hp} {R : It → Hp → Prop} (h : te σ H fun x H1 => KL K x H1 R) : iSeq K te σ H R := .inl h
theorem w_st {K : PySem.W.Frag} {te : TE} {σ : L2.St} {H : Hp} {R : It → Hp → Prop} (h : te σ H fun x H1 => KT K x H1 R) : iSeq K te σ H R := .inr h
def Sq (K : PySem.W.Frag) (H : Hp) (a : Addr) (xs : List V) : Prop := SqL K H a xs ∨ SqT K H a xs
theorem Sq.same {K : PySem.W.Frag} {H H' : Hp} {a : Addr} {xs : List V} (h : Sq K H a xs) (s : Same H H') : Sq K H' a xs := h.imp (fun h => s.seq h) fun h => seqT s h
/-- an iterator over such -/
def SqIt (K : PySem.W.Frag) (a : Addr) (xs : List V) (J : It) (H : Hp) : Prop := (J = Itl K a ∧ SqL K H a xs) ∨ (J = Itt K a ∧ SqT K H a xs)
theorem SqIt.same {K : PySem.W.Frag} {H H' : Hp} {a : Addr} {xs : List V} {J : It} (h : SqIt K a xs J H) (s : Same H H') : SqIt K a xs J H' := h.imp (fun h => ⟨h.1, s.seq h.2⟩) fun h => ⟨h.1, seqT s h.2⟩
section
variable {K : PySem.W.Frag} {σ : L2.St} {H : Hp} {Q : VK} {D : Ends} {t : TS} {te : TE} {tt : TT} {g : TG} {a : Addr} {xs : List V} {vs : List Nat} {i : Nat} {J : It}
/-- for x in v, v a slot -/
theorem w_sq {R : It → Hp → Prop} (hs : Sq K H a xs) (e : σ[i]? = some (some (.ref a))) (h : ∀ J, SqIt K a xs J H → R J H) : iSeq K (tVar i) σ H R := by
  rcases hs with hs | hs
  · exact .inl (w_l (e_var e (k_l hs (h _ (.inl ⟨rfl, hs⟩)))))
  · exact .inr (w_t (e_var e (k_t hs (h _ (.inr ⟨rfl, hs⟩)))))
theorem f_sq {H0 : Hp} (hJ : SqIt K a xs J H0) (Pv : Nat → L2.St → Hp → Prop) (h0 : Pv 0 σ H) (hl : ∀ i σ H, Pv i σ H → Same H0 H)
    (hs : ∀ i x σ H, xs[i]? = some x → Pv i σ H → g x σ H fun σ2 H2 => t ⟨Pv (i + 1), D.rt, D.nx, Pv (i + 1)⟩ σ2 H2) (hd : ∀ σ H, Pv xs.length σ H → D.nx σ H) : LoopF J g t D σ H := by
  rcases hJ with ⟨rfl, hJ⟩ | ⟨rfl, hJ⟩
  · exact f_list Pv h0 (fun i σ H _ p => (hl i σ H p).seq hJ) hs hd
  · exact f_tup Pv h0 (fun i σ H _ p => seqT (hl i σ H p) hJ) hs hd
/-- a list comprehension: what is taken so far -/
theorem c_acc (hJ : SqIt K a xs J H) (R : Nat → List V → Hp → Prop) (mono : ∀ i acc H H', TK H H' → R i acc H → R i acc H') (small : ∀ i acc H, i ≤ xs.length → R i acc H → acc.length < sizeLine) (r0 : R 0 [] H)
    (step : ∀ i x H1 acc (N : VK) (M : Hp → Prop), xs[i]? = some x → Same H H1 → R i acc H1 → (∀ y H3, Same H1 H3 → R (i + 1) (acc ++ [y]) H3 → N y H3) → (∀ H3, Same H1 H3 → R (i + 1) acc H3 → M H3) →
      g x (wipe σ vs) H1 fun σ2 H2 => wipe σ2 vs = wipe σ vs ∧ tt σ2 H2 fun b H3 => if b = true then te σ2 H3 N else M H3)
    (post : ∀ D H2 ys, H D = none → Same H H2 → H2 D = some (.lst ys) → R xs.length ys H2 → Q (.ref D) H2) : LoopC J g tt te vs σ H Q := by
  have key : ∀ (D : Addr) (i : Nat) (x : V) (H1 : Hp), xs[i]? = some x → H D = none → (Same H H1 ∧ ∃ acc, H1 D = some (.lst acc) ∧ R i acc H1) → g x (wipe σ vs) H1 fun σ2 H2 => wipe σ2 vs = wipe σ vs ∧ tt σ2 H2 fun b H3 =>
      if b = true then te σ2 H3 fun y H4 => COut D y H4 (fun H5 => Same H H5 ∧ ∃ acc, H5 D = some (.lst acc) ∧ R (i + 1) acc H5) else (fun H5 => Same H H5 ∧ ∃ acc, H5 D = some (.lst acc) ∧ R (i + 1) acc H5) H3 := by
    intro D i x H1 hx nD ⟨s1, acc, e1, r1⟩
    have hi := (List.getElem?_eq_some_iff.mp hx).1
    refine step i x H1 acc _ _ hx s1 r1 (fun y H3 s3 r3 => ?_) (fun H3 s3 r3 => ⟨s1.trans s3, acc, s3 _ _ e1, r3⟩)
    refine c_out (s3 _ _ e1) (small i acc H1 (by omega) r1) fun H4 c4 e4 => ⟨c4.same (s1.trans s3) nD, _, e4, mono _ _ _ _ (c4.tk (s3 _ _ e1)) r3⟩
  have p0 : ∀ (D : Addr) (H1 : Hp), H D = none → Same H H1 → H1 D = some (.lst []) → (Same H H1 ∧ ∃ acc, H1 D = some (.lst acc) ∧ R 0 acc H1) := fun D H1 nD s1 e1 => ⟨s1, [], e1, mono _ _ _ _ s1.tk r0⟩
  have pe : ∀ (D : Addr) (H1 : Hp), H D = none → (Same H H1 ∧ ∃ acc, H1 D = some (.lst acc) ∧ R xs.length acc H1) → Q (.ref D) H1 := fun D H1 nD ⟨s1, acc, e1, r1⟩ => post D H1 acc nD s1 e1 r1
  rcases hJ with ⟨rfl, hJ⟩ | ⟨rfl, hJ⟩
  · exact c_list (fun D i H1 => Same H H1 ∧ ∃ acc, H1 D = some (.lst acc) ∧ R i acc H1) p0 (fun D i H1 _ _ p => p.1.seq hJ) (fun D i x H1 hx nD p => key D i x H1 hx nD p) pe
  · exact fun D nD => lc_tup (fun i H1 => Same H H1 ∧ ∃ acc, H1 D = some (.lst acc) ∧ R i acc H1) (p0 D _ nD (same_new nD) upd_same) (fun i H1 _ p => seqT p.1 hJ) (fun i x H1 hx p => key D i x H1 hx nD p) fun H1 p => pe D H1 nD p
theorem c_accR {lo : Int} {n : Nat} (R : Nat → List V → Hp → Prop) (mono : ∀ i acc H H', TK H H' → R i acc H → R i acc H') (small : ∀ i acc H, i ≤ n → R i acc H → acc.length < sizeLine) (r0 : R 0 [] H)
    (step : ∀ i H1 acc (N : VK) (M : Hp → Prop), i < n → Same H H1 → R i acc H1 → (∀ y H3, Same H1 H3 → R (i + 1) (acc ++ [y]) H3 → N y H3) → (∀ H3, Same H1 H3 → R (i + 1) acc H3 → M H3) →
      g (.int (lo + i)) (wipe σ vs) H1 fun σ2 H2 => wipe σ2 vs = wipe σ vs ∧ tt σ2 H2 fun b H3 => if b = true then te σ2 H3 N else M H3)
    (post : ∀ D H2 ys, H D = none → Same H H2 → H2 D = some (.lst ys) → R n ys H2 → Q (.ref D) H2) : LoopC (Itr lo n) g tt te vs σ H Q := by
  refine c_range (fun D i H1 => Same H H1 ∧ ∃ acc, H1 D = some (.lst acc) ∧ R i acc H1) (fun D H1 nD s1 e1 => ⟨s1, [], e1, mono _ _ _ _ s1.tk r0⟩) (fun D i H1 hi nD p => ?_) (fun D H1 nD ⟨s1, acc, e1, r1⟩ => post D H1 acc nD s1 e1 r1)
  obtain ⟨s1, acc, e1, r1⟩ := p
  refine step i H1 acc _ _ hi s1 r1 (fun y H3 s3 r3 => ?_) (fun H3 s3 r3 => ⟨s1.trans s3, acc, s3 _ _ e1, r3⟩)
  refine c_out (s3 _ _ e1) (small i acc H1 (by omega) r1) fun H4 c4 e4 => ⟨c4.same (s1.trans s3) nD, _, e4, mono _ _ _ _ (c4.tk (s3 _ _ e1)) r3⟩
end
/-- one value an item -/
def One (P : Nat → V → Hp → Prop) (i : Nat) (acc : List V) (H : Hp) : Prop := acc.length = i ∧ ∀ j y, acc[j]? = some y → P j y H
theorem One.zero {P : Nat → V → Hp → Prop} {H : Hp} : One P 0 [] H := ⟨rfl, fun j y e => by cases e⟩
theorem One.snoc {P : Nat → V → Hp → Prop} {i : Nat} {acc : List V} {H H3 : Hp} {y : V} (mono : ∀ j z, P j z H → P j z H3) (o : One P i acc H) (h : P i y H3) : One P (i + 1) (acc ++ [y]) H3 := by
  refine ⟨by rw [List.length_append, o.1]; rfl, fun j z e => ?_⟩
  by_cases hj : j < acc.length
  · rw [List.getElem?_append_left hj] at e
    exact mono _ _ (o.2 j z e)
  · have hj2 := (List.getElem?_eq_some_iff.mp e).1
    rw [List.length_append, List.length_singleton] at hj2
    have : j = acc.length := by omega
    subst this
    rw [List.getElem?_append_right (Nat.le_refl _), Nat.sub_self] at e
    cases e
    rw [o.1]
    exact h
/-- the list is known from its items -/
theorem One.eq {P : Nat → V → Hp → Prop} {α : Type} {F : α → V} {xs : List α} {acc : List V} {H : Hp} (o : One P xs.length acc H) (h : ∀ j y, j < xs.length → P j y H → xs[j]?.map F = some y) : acc = xs.map F := by
  refine List.ext_getElem? fun j => ?_
  by_cases hj : j < xs.length
  · have hj2 : j < acc.length := by rw [o.1]; exact hj
    rw [List.getElem?_map, h j _ hj (o.2 j acc[j] (List.getElem?_eq_getElem hj2)), List.getElem?_eq_getElem hj2]
  · rw [List.getElem?_eq_none (by rw [o.1]; omega), List.getElem?_eq_none (by rw [List.length_map]; omega)]
theorem One.eqR {P : Nat → V → Hp → Prop} {n : Nat} {F : Nat → V} {acc : List V} {H : Hp} (o : One P n acc H) (h : ∀ j y, j < n → P j y H → y = F j) : acc = (List.range n).map F := by
  refine One.eq (xs := List.range n) (F := F) (by rw [List.length_range]; exact o) fun j y hj p => ?_
  rw [List.length_range] at hj
  rw [List.getElem?_range hj, h j y hj p]
  rfl
theorem One.ints {P : Nat → V → Hp → Prop} {n : Nat} {acc : List V} {H : Hp} (o : One P n acc H) (h : ∀ j y, j < n → P j y H → ∃ i : Int, y = .int i) : ∃ xs : List Int, acc = xs.map V.int ∧ xs.length = n := by
  have key : ∀ acc : List V, (∀ y ∈ acc, ∃ i : Int, y = .int i) → ∃ xs : List Int, acc = xs.map V.int := by
    intro acc
    induction acc with
    | nil => exact fun _ => ⟨[], rfl⟩
    | cons y r ih =>
      intro h
      obtain ⟨i, rfl⟩ := h y List.mem_cons_self
      obtain ⟨xs, rfl⟩ := ih fun z hz => h z (List.mem_cons_of_mem _ hz)
      exact ⟨i :: xs, rfl⟩
  obtain ⟨xs, e⟩ := key acc fun y hy => by
    obtain ⟨j, hj, e⟩ := List.getElem_of_mem hy
    exact h j y (by rw [← o.1]; exact hj) (o.2 j y (by rw [List.getElem?_eq_getElem hj, e]))
  exact ⟨xs, e, by rw [← o.1, e, List.length_map]⟩
/-- `xs` with the pattern n times -/
theorem One.const {n : Nat} {acc : List V} {H : Hp} {v : V} (o : One (fun _ y _ => y = v) n acc H) : acc = List.replicate n v := by
  refine List.ext_getElem? fun j => ?_
  rw [List.getElem?_replicate]
  by_cases hj : j < n
  · rw [if_pos hj, List.getElem?_eq_getElem (by rw [o.1]; exact hj), o.2 j _ (List.getElem?_eq_getElem (by rw [o.1]; exact hj))]
  · rw [if_neg hj, List.getElem?_eq_none (by rw [o.1]; omega)]
end WN
/-! WQ: data that is equal. -/
namespace WQ
open PySem PySem.Spec PyProof.Rows L2 Wy WN
mutual
/-- no truth value in it -/
def nb : PyData → Bool
  | .none => true
  | .bool _ => false
  | .int _ => true
  | .str _ => true
  | .list xs => nbAll xs
  | .tuple xs => nbAll xs
  | .dict _ => false
def nbAll : List PyData → Bool
  | [] => true
  | x :: xs => nb x && nbAll xs
end
mutual
theorem eqv_iff : ∀ (d e : PyData), nb d = true → nb e = true → (PyData.eqv d e = true ↔ d = e)
  | .none, e, _, h => by cases e <;> simp [PyData.eqv, nb] at h ⊢
  | .bool _, _, h, _ => by simp [nb] at h
  | .int i, e, _, h => by cases e <;> simp [PyData.eqv, nb] at h ⊢
  | .str x, e, _, h => by cases e <;> simp [PyData.eqv, nb] at h ⊢
  | .list xs, e, h, h' => by
    cases e with
    | list ys =>
      have ih := eqvAll_iff xs ys (by simpa [nb] using h) (by simpa [nb] using h')
      simp [PyData.eqv, ih]
    | _ => simp [PyData.eqv, nb] at h' ⊢
  | .tuple xs, e, h, h' => by
    cases e with
    | tuple ys =>
      have ih := eqvAll_iff xs ys (by simpa [nb] using h) (by simpa [nb] using h')
      simp [PyData.eqv, ih]
    | _ => simp [PyData.eqv, nb] at h' ⊢
  | .dict _, _, h, _ => by simp [nb] at h
theorem eqvAll_iff : ∀ (xs ys : List PyData), nbAll xs = true → nbAll ys = true → (PyData.eqvAll xs ys = true ↔ xs = ys)
  | [], [], _, _ => by simp [PyData.eqvAll]
  | [], _ :: _, _, _ => by simp [PyData.eqvAll]
  | _ :: _, [], _, _ => by simp [PyData.eqvAll]
  | x :: xs, y :: ys, h, h' => by
    simp only [nbAll, Bool.and_eq_true] at h h'
    have i1 := eqv_iff x y h.1 h'.1
    have i2 := eqvAll_iff xs ys h.2 h'.2
    simp [PyData.eqvAll, i1, i2]
end
theorem shaped_of {d : PyData} (h : d.canLay0 = true) (h2 : d.depth ≤ 64) : SeqAt.shaped d = true := by
  unfold SeqAt.shaped
  rw [h, decide_eq_true h2]
  rfl
section
variable {K : PySem.W.Frag} {H : Hp} {Q : VK} {x y : V} {d e : PyData}
theorem eq_same (h1 : Dp K H x d) (h2 : Dp K H y d) (hs : SeqAt.shaped d = true) (h : Q (.bl true) H) : rEq2 K x y H Q := by
  refine o_eqD h1 h2 hs hs ?_
  rw [SeqAt.eqv_refl _ (SeqAt.canLay_of_shaped hs)]
  exact h
theorem ne_same (h1 : Dp K H x d) (h2 : Dp K H y d) (hs : SeqAt.shaped d = true) (h : Q (.bl false) H) : rNe2 K x y H Q := by
  refine o_neD h1 h2 hs hs ?_
  rw [SeqAt.eqv_refl _ (SeqAt.canLay_of_shaped hs)]
  exact h
theorem eq_nb (h1 : Dp K H x d) (h2 : Dp K H y e) (hs : SeqAt.shaped d = true) (hs2 : SeqAt.shaped e = true) (n1 : nb d = true) (n2 : nb e = true) (hy : d = e → Q (.bl true) H) (hn : d ≠ e → Q (.bl false) H) : rEq2 K x y H Q := by
  refine o_eqD h1 h2 hs hs2 ?_
  have i := eqv_iff d e n1 n2
  cases q : PyData.eqv d e with
  | true => exact hy (i.mp q)
  | false => exact hn fun z => by rw [i.mpr z] at q; cases q
theorem ne_nb (h1 : Dp K H x d) (h2 : Dp K H y e) (hs : SeqAt.shaped d = true) (hs2 : SeqAt.shaped e = true) (n1 : nb d = true) (n2 : nb e = true) (hy : d = e → Q (.bl false) H) (hn : d ≠ e → Q (.bl true) H) : rNe2 K x y H Q := by
  refine o_neD h1 h2 hs hs2 ?_
  have i := eqv_iff d e n1 n2
  cases q : PyData.eqv d e with
  | true => exact hy (i.mp q)
  | false => exact hn fun z => by rw [i.mpr z] at q; cases q
end
theorem lay_all {α : Type} (F : α → PyData) : ∀ xs : List α, (∀ x ∈ xs, (F x).canLay0 = true) → PyData.canLayAll0 (xs.map F) = true
  | [], _ => by simp [PyData.canLayAll0]
  | x :: xs, h => by simp [PyData.canLayAll0, h x List.mem_cons_self, lay_all F xs fun y hy => h y (List.mem_cons_of_mem _ hy)]
theorem dep_all {α : Type} (F : α → PyData) (n : Nat) : ∀ xs : List α, (∀ x ∈ xs, (F x).depth ≤ n) → PyData.depthAll (xs.map F) ≤ n
  | [], _ => by simp [PyData.depthAll]
  | x :: xs, h => by
    have h1 := h x List.mem_cons_self
    have h2 := dep_all F n xs fun y hy => h y (List.mem_cons_of_mem _ hy)
    simp only [List.map_cons, PyData.depthAll]
    omega
theorem nb_all {α : Type} (F : α → PyData) : ∀ xs : List α, (∀ x ∈ xs, nb (F x) = true) → nbAll (xs.map F) = true
  | [], _ => by simp [nbAll]
  | x :: xs, h => by simp [nbAll, h x List.mem_cons_self, nb_all F xs fun y hy => h y (List.mem_cons_of_mem _ hy)]
theorem shL {α : Type} (F : α → PyData) (xs : List α) (n : Nat) (hn : n < 64) (h : ∀ x ∈ xs, (F x).canLay0 = true ∧ (F x).depth ≤ n) : SeqAt.shaped (.list (xs.map F)) = true :=
  shaped_of (by simp [PyData.canLay0, lay_all F xs fun x hx => (h x hx).1]) (by have := dep_all F n xs fun x hx => (h x hx).2; simp only [PyData.depth]; omega)
theorem shT {α : Type} (F : α → PyData) (xs : List α) (n : Nat) (hn : n < 64) (h : ∀ x ∈ xs, (F x).canLay0 = true ∧ (F x).depth ≤ n) : SeqAt.shaped (.tuple (xs.map F)) = true :=
  shaped_of (by simp [PyData.canLay0, lay_all F xs fun x hx => (h x hx).1]) (by have := dep_all F n xs fun x hx => (h x hx).2; simp only [PyData.depth]; omega)
theorem lay_int (i : Int) : (PyData.int i).canLay0 = true ∧ (PyData.int i).depth ≤ 0 := ⟨by simp [PyData.canLay0], by simp [PyData.depth]⟩
theorem lay_bool (b : Bool) : (PyData.bool b).canLay0 = true ∧ (PyData.bool b).depth ≤ 0 := ⟨by simp [PyData.canLay0], by simp [PyData.depth]⟩
theorem lay_tup {ds : List PyData} {n : Nat} (h : ∀ x ∈ ds, x.canLay0 = true ∧ x.depth ≤ n) : (PyData.tuple ds).canLay0 = true ∧ (PyData.tuple ds).depth ≤ n + 1 := by
  have h1 := lay_all id ds fun x hx => (h x hx).1
  have h2 := dep_all id n ds fun x hx => (h x hx).2
  rw [List.map_id] at h1 h2
  exact ⟨by simp [PyData.canLay0, h1], by simp only [PyData.depth]; omega⟩
/-! values to data -/
theorem dp_ints {K : PySem.W.Frag} {H : Hp} : ∀ xs : List Int, DpAll K H (xs.map V.int) (xs.map PyData.int)
  | [] => .nil
  | x :: xs => .cons (.int x) (dp_ints xs)
theorem dp_bls {K : PySem.W.Frag} {H : Hp} : ∀ xs : List Bool, DpAll K H (xs.map V.bl) (xs.map PyData.bool)
  | [] => .nil
  | x :: xs => .cons (.bl x) (dp_bls xs)
theorem tp_ints {H : Hp} : ∀ xs : List Int, TpAll H (xs.map V.int) (xs.map PyData.int)
  | [] => .nil
  | x :: xs => .cons (.int x) (tp_ints xs)
theorem ints_tp {H : Hp} : ∀ {xs : List Int} {vs : List V}, TpAll H vs (xs.map PyData.int) → vs = xs.map V.int
  | [], _, h => by cases h; rfl
  | x :: xs, _, h => by
    cases h with
    | cons h1 h2 =>
      cases h1
      rw [ints_tp h2]
      rfl
theorem tpGet {α : Type} {F : α → PyData} {H : Hp} {us : List V} {xs : List α} {i : Nat} {u : V} (t : TpAll H us (xs.map F)) (e : us[i]? = some u) : ∃ x, xs[i]? = some x ∧ Tp H u (F x) := by
  have hl := t.length
  rw [List.length_map] at hl
  have hi := (List.getElem?_eq_some_iff.mp e).1
  have hx : xs[i]? = some xs[i] := List.getElem?_eq_getElem (by omega)
  obtain ⟨v, e2, tv⟩ := t.get (i := i) (d := F xs[i]) (by rw [List.getElem?_map, hx]; rfl)
  rw [e] at e2
  cases e2
  exact ⟨_, hx, tv⟩
theorem tpAt {α : Type} {F : α → PyData} {H : Hp} {us : List V} {xs : List α} {i : Nat} {x : α} (t : TpAll H us (xs.map F)) (e : xs[i]? = some x) : ∃ u, us[i]? = some u ∧ Tp H u (F x) :=
  t.get (by rw [List.getElem?_map, e]; rfl)
theorem tp3 {H : Hp} {v : V} {d1 d2 d3 : PyData} (h : Tp H v (.tuple [d1, d2, d3])) : ∃ a v1 v2 v3, v = .ref a ∧ H a = some (.tup [v1, v2, v3]) ∧ Tp H v1 d1 ∧ Tp H v2 d2 ∧ Tp H v3 d3 := by
  cases h with
  | tup e r =>
    cases r with | cons h1 r => cases r with | cons h2 r => cases r with | cons h3 r =>
      cases r
      exact ⟨_, _, _, _, rfl, e, h1, h2, h3⟩
theorem tp2 {H : Hp} {v : V} {d1 d2 : PyData} (h : Tp H v (.tuple [d1, d2])) : ∃ a v1 v2, v = .ref a ∧ H a = some (.tup [v1, v2]) ∧ Tp H v1 d1 ∧ Tp H v2 d2 := by
  cases h with
  | tup e r =>
    cases r with | cons h1 r => cases r with | cons h2 r =>
      cases r
      exact ⟨_, _, _, rfl, e, h1, h2⟩
theorem tpL {H : Hp} {v : V} {ds : List PyData} (h : Tp H v (.tuple ds)) : ∃ a vs, v = .ref a ∧ H a = some (.tup vs) ∧ TpAll H vs ds := by
  cases h with
  | tup e r => exact ⟨_, _, rfl, e, r⟩
theorem tpSnoc {H : Hp} {us : List V} {ds : List PyData} {v : V} {d : PyData} (t : TpAll H us ds) (h : Tp H v d) : TpAll H (us ++ [v]) (ds ++ [d]) := by
  induction us generalizing ds with
  | nil => cases t; exact .cons h .nil
  | cons u r ih => cases t with | cons a b => exact .cons a (ih b)
theorem tpApp {H : Hp} {us vs : List V} {ds es : List PyData} (t : TpAll H us ds) (h : TpAll H vs es) : TpAll H (us ++ vs) (ds ++ es) := by
  induction us generalizing ds with
  | nil => cases t; exact h
  | cons u r ih => cases t with | cons a b => exact .cons a (ih b)
theorem tpOf {H : Hp} : ∀ {us : List V} {ds : List PyData}, us.length = ds.length → (∀ (j : Nat) (y : V) (d : PyData), us[j]? = some y → ds[j]? = some d → Tp H y d) → TpAll H us ds
  | [], [], _, _ => .nil
  | [], _ :: _, h, _ => by simp at h
  | _ :: _, [], h, _ => by simp at h
  | u :: us, d :: ds, h, g => .cons (g 0 u d rfl rfl) (tpOf (by simpa using h) fun j y d a b => g (j + 1) y d (by simpa using a) (by simpa using b))
/-- one by one over a range -/
theorem tpOne {P : Nat → V → Hp → Prop} {F : Nat → PyData} {n : Nat} {us : List V} {H : Hp} (o : One P n us H) (h : ∀ j y, j < n → P j y H → Tp H y (F j)) : TpAll H us ((List.range n).map F) :=
  tpOf (by rw [o.1, List.length_map, List.length_range]) fun j y d a b => by
    have hj : j < n := by have := (List.getElem?_eq_some_iff.mp a).1; rw [o.1] at this; exact this
    rw [List.getElem?_map, List.getElem?_range hj] at b
    cases b
    exact h j y hj (o.2 j y a)
/-- tuples of ints -/
def iT (xs : List Int) : PyData := .tuple (xs.map .int)
theorem tpI {H : Hp} {v : V} {xs : List Int} (h : Tp H v (iT xs)) : ∃ a, v = .ref a ∧ H a = some (.tup (xs.map V.int)) := by
  obtain ⟨a, vs, rfl, e, t⟩ := tpL h
  rw [ints_tp t] at e
  exact ⟨a, rfl, e⟩
theorem iT_tp {H : Hp} {a : Addr} {xs : List Int} (e : H a = some (.tup (xs.map V.int))) : Tp H (.ref a) (iT xs) := .tup e (tp_ints xs)
theorem iT_lay (xs : List Int) : (iT xs).canLay0 = true ∧ (iT xs).depth ≤ 1 := lay_tup fun x hx => by
  obtain ⟨i, _, rfl⟩ := List.mem_map.mp hx
  exact lay_int i
theorem nb_int : ∀ xs : List Int, nbAll (xs.map PyData.int) = true
  | [] => rfl
  | x :: xs => by simp [nbAll, nb, nb_int xs]
theorem iT_nb (xs : List Int) : nb (iT xs) = true := by
  show nbAll _ = true
  exact nb_int xs
end WQ
/-! WS: differences and values. -/
namespace WS
open PySem PySem.Spec PyProof.Rows L2 Wy WN WQ
abbrev Df := Int × Int × Int
def dfD (d : Df) : PyData := .tuple [.int d.1, .int d.2.1, .int d.2.2]
theorem dfD_lay (d : Df) : (dfD d).canLay0 = true ∧ (dfD d).depth ≤ 1 := lay_tup (n := 0) fun x hx => by
  simp only [List.mem_cons, List.not_mem_nil, or_false] at hx
  rcases hx with rfl | rfl | rfl <;> exact lay_int _
theorem dfD_nb (d : Df) : nb (dfD d) = true := rfl
/-- the value of a node -/
def lv (vs : List Int) (n : Int) : Int := (0 :: vs).getD n.toNat 0
def kept (vs : List Int) (d : Df) : Bool := decide (lv vs d.1 - lv vs d.2.1 ≤ d.2.2)
def InR (n : Nat) (d : Df) : Prop := 0 ≤ d.1 ∧ d.1 ≤ n ∧ 0 ≤ d.2.1 ∧ d.2.1 ≤ n
theorem lv_at {vs : List Int} {n : Int} (h0 : 0 ≤ n) (h1 : n ≤ vs.length) : ((0 :: vs).map V.int)[n.toNat]? = some (.int (lv vs n)) := by
  have : n.toNat < (0 :: vs).length := by rw [List.length_cons]; omega
  rw [List.getElem?_map, List.getElem?_eq_getElem this]
  unfold lv
  rw [List.getD_eq_getElem?_getD, List.getElem?_eq_getElem this]
  rfl
section
variable {K : PySem.W.Frag} {H : Hp} {Q : VK} {a : Addr} {xs : List V} {x y z : V}
theorem ix_lv {vs : List Int} {n : Int} (hs : SqL K H a ((0 :: vs).map V.int)) (h0 : 0 ≤ n) (h1 : n ≤ vs.length) (h : Q (.int (lv vs n)) H) : rIx K (.ref a) (.int n) H Q := o_ixL hs (atI_of (j := n.toNat) (by omega) (lv_at h0 h1)) h
theorem b_allT (hs : SqL K H a xs) (hx : ∀ (j : Nat) (y : V), xs[j]? = some y → y = .bl true) (h : Q (.bl true) H) : rAll2 K [.ref a] H Q := by
  have e : xs = (List.replicate xs.length true).map V.bl := by
    refine List.ext_getElem? fun j => ?_
    rw [List.getElem?_map, List.getElem?_replicate]
    by_cases hj : j < xs.length
    · rw [if_pos hj, List.getElem?_eq_getElem hj, hx j _ (List.getElem?_eq_getElem hj)]
      rfl
    · rw [if_neg hj, List.getElem?_eq_none (by omega)]
      rfl
  rw [e] at hs
  refine b_all hs ?_
  have : (List.replicate xs.length true).all id = true := by simp
  rw [this]
  exact h
/-- all of truths that are known one by one -/
theorem b_allM {α : Type} {ds : List α} {f : α → Bool} (hs : SqL K H a (ds.map fun d => V.bl (f d))) (h : Q (.bl (ds.all f)) H) : rAll2 K [.ref a] H Q := by
  have e : ds.map (fun d => V.bl (f d)) = (ds.map f).map V.bl := by rw [List.map_map]; rfl
  rw [e] at hs
  refine b_all hs ?_
  have : (ds.map f).all id = ds.all f := by rw [List.all_map]; rfl
  rw [this]
  exact h
theorem b_len0 (hs : SqL K H a []) (h : Q (.int 0) H) : rLn K [.ref a] H Q := b_lenL hs h
theorem b_lenT0 (hs : SqT K H a []) (h : Q (.int 0) H) : rLn K [.ref a] H Q := b_lenT hs h
theorem b_lenT1 (hs : SqT K H a [x]) (h : Q (.int 1) H) : rLn K [.ref a] H Q := b_lenT hs h
theorem b_lenT2 (hs : SqT K H a [x, y]) (h : Q (.int 2) H) : rLn K [.ref a] H Q := b_lenT hs h
theorem b_lenT3 (hs : SqT K H a [x, y, z]) (h : Q (.int 3) H) : rLn K [.ref a] H Q := b_lenT hs h
end
def spIsInt : Sp := fun vs H Q _ => ∃ i : Int, vs = [.int i] ∧ Q (.bl true) H
/-- all differences kept by values -/
def spKept (K : PySem.W.Frag) : Sp := fun vs H Q _ => ∃ (a b : Addr) (us : List V) (ds : List Df) (vals : List Int), vs = [.ref a, .ref b] ∧ Sq K H a us ∧ TpAll H us (ds.map dfD) ∧ H b = some (.lst (vals.map V.int)) ∧ (∀ d ∈ ds, InR vals.length d) ∧
  ds.length ≤ 1000 ∧ vals.length ≤ 900 ∧ ∀ H', Same H H' → Q (.bl (ds.all (kept vals))) H'
end WS
local macro_rules | `(tactic| walk_at "tr") => `(tactic| first | assumption | exact lst_of (by assumption) | exact tup_of (by assumption) | (refine L2.Same.seq (by assumption) ?_; walk_at "tr") | (refine seqT (by assumption) ?_; walk_at "tr"))
local macro_rules | `(tactic| walk_at "s") => `(tactic| with_reducible first
  | refine s_seq ?_ | refine s_asg ?_ | refine g_name ?_ | refine s_ret ?_ | refine s_retN ?_ | refine s_drop ?_ | refine s_if ?_ | refine s_next ?_ | refine s_brk ?_ | refine s_ct ?_ | refine s_for ?_
  | (apply e_var; with_unfolding_all rfl) | refine e_c ?_ | refine e_op ?_ | refine e_un ?_ | refine a_cons ?_ | refine a_nil ?_ | refine c_b ?_ | refine c_call ?_ | refine t_test ?_ | refine k_bl ?_ | refine t_b ?_ | refine t_tr ?_ | refine k_trB ?_ | refine k_trN ?_ | refine k_trI ?_
  | refine t_and ?_ | refine t_or ?_ | refine t_not ?_ | refine e_andV ?_ | refine e_orV ?_ | refine e_notV ?_ | refine e_if ?_ | refine e_chain ?_ | refine e_tup ?_ | refine e_lst ?_ | refine e_sl ?_ | refine p_no ?_ | refine p_so ?_ | refine k_int ?_
  | refine m_bm ?_ | refine g_sub ?_ | refine m_m1 ?_ | refine m_st ?_ | refine e_lc ?_ | refine t_yes ?_ | refine w_r1 ?_ | refine w_r2 ?_ | refine w_l ?_ | refine w_t ?_ | refine w_s ?_ | refine k_s ?_
  | (apply s_aug; with_unfolding_all rfl) | refine i_add ?_ | refine o_addI ?_ | refine o_I0 ?_ | refine b_int ?_ | refine b_intB ?_ | refine b_abs ?_ | refine u_neg ?_ | refine o_isN ?_ | refine o_ntN ?_ | refine o_inS ?_ | refine o_niS ?_
  | refine g_cons ?_ | refine g_nil ?_ | refine e_joined ?_ | refine j_nil ?_ | refine j_cons ?_ | refine e_fmt ?_
  | refine WD.e_dget ?_ | refine WD.s_dput ?_
  | (refine o_mod ?_ ?_; omega) | (refine o_fdiv ?_ ?_ ?_; omega; omega) | (refine o_pow ?_ ?_ ?_ ?_; omega; omega; omega) | (refine o_mulI2 ?_ ?_ ?_; omega; omega) | (refine o_mulI1 ?_ ?_ ?_; omega; omega)
  | (refine WN.o_fdW ?_ ?_ ?_; omega; omega))
local macro_rules | `(tactic| walk_at "ss") => `(tactic| repeat walk_at "s")
local macro_rules | `(tactic| walk_at "ne") => `(tactic| first | assumption | exact Ne.symm (by assumption) | exact WN.ne_new (by assumption) (by walk_at "hp0") | exact Ne.symm (WN.ne_new (by assumption) (by walk_at "hp0")))
local macro_rules | `(tactic| walk_at "hp0") => `(tactic| first | assumption | (refine WN.sm (by assumption) ?_; walk_at "hp0"))
local macro_rules | `(tactic| walk_at "hp") => `(tactic| first | assumption | (refine WN.sm (by assumption) ?_; walk_at "hp") | (refine WN.cm (by assumption) (by walk_at "ne") ?_; walk_at "hp"))
local macro_rules | `(tactic| walk_at "sq") => `(tactic| first | assumption | exact lst_of (by walk_at "hp") | exact tup_of (by walk_at "hp") | (refine L2.Same.seq (by assumption) ?_; walk_at "sq") | (refine seqT (by assumption) ?_; walk_at "sq"))
local macro_rules | `(tactic| walk_at "sa") => `(tactic| first | assumption | exact L2.Same.refl _ | (refine L2.Same.trans ?_ (by assumption); walk_at "sa"))
local macro_rules | `(tactic| walk_at "ty") => `(tactic| first | exact .base (.int _) | exact .base (.bl _) | exact .base .non | exact .base (.str _) | exact .base (.lst (by walk_at "hp")) | exact .base (.tup (by walk_at "hp")))
local macro_rules | `(tactic| walk_at "x") => `(tactic| with_reducible first
  | walk_at "s"
  | (refine n_obj ?_ (fun _ _ _ _ _ => ?_); exact lz (Nat.le_of_ble_eq_true rfl))
  | (apply o_ixT; walk_at "sq"; with_unfolding_all rfl)
  | (apply o_ixL; walk_at "sq"; with_unfolding_all rfl)
  | (apply g_tup; walk_at "sq"; with_unfolding_all rfl)
  | (apply l_L; walk_at "sq"; intro _ _ _ _ _)
  | (refine k_r1 ?_ ?_ ?_; omega; omega)
  | refine WN.b_mx ?_ | refine WN.b_mn ?_
  | (apply k_l; walk_at "sq") | (apply k_t; walk_at "sq")
  | (apply WS.b_lenT2; walk_at "sq") | (apply WS.b_lenT3; walk_at "sq")
  | (apply WN.b_is2 (b := true); walk_at "ty"; exact L2.kit_ty (by decide +kernel)) | (apply WN.b_is2 (b := false); walk_at "ty"; exact L2.kit_ty (by decide +kernel))
  | refine L2.iteT ?_ | refine L2.iteF ?_
  | (refine WN.iteTT ?_ ?_; first | decide +kernel | exact WN.nNRN _ | exact WN.nNIN _ | exact WN.nNSN _ | exact WN.nNBN _)
  | (refine WN.iteFF ?_ ?_; first | decide +kernel | exact WN.nRN _ | exact WN.nIN _ | exact WN.nSN _ | exact WN.nBN _)
  | (refine o_eqS ?_ ?_; with_unfolding_all rfl) | (refine o_neS ?_ ?_; with_unfolding_all rfl))
local macro_rules | `(tactic| walk_at "xx") => `(tactic| repeat walk_at "x")
local macro_rules | `(tactic| walk_at "fr") => `(tactic| first | assumption | exact WN.free_of (by assumption) (by walk_at "sa"))
local macro_rules | `(tactic| walk_at "tp") => `(tactic| first | exact .nil | exact .int _ | exact .bl _ | exact .str _ | exact .non | (refine .cons ?_ ?_ <;> walk_at "tp") | (refine .tup (by walk_at "hp") ?_; walk_at "tp"))
/-! WC: sequences of either kind, and chains. -/
namespace WC
open PySem PySem.Spec PyProof.Rows L2 Wy WN WQ WS
abbrev tStar := StX.tStar
theorem pa_star {X : Cx} {e : Expr} {es : List Expr} {p : Pos} {te : TE} {t : TA} (he : PE X e te) (hr : PA X es t) (hs : starEach (.Starred e p :: es) X.env = (true, eval e X.env) :: starEach es X.env := by rfl) : PA X (.Starred e p :: es) (tStar X.K te t) := StX.pa_star he hr hs
theorem ixN_of {n : Nat} {k : Int} (h0 : 0 ≤ k) (h1 : k < n) : ixN n k = some k.toNat := by
  obtain ⟨j, rfl⟩ : ∃ j : Nat, k = j := ⟨k.toNat, by omega⟩
  rw [ixN_nat (by omega), Int.toNat_natCast]
theorem erase_perm {α : Type} : ∀ {xs : List α} {i : Nat} {x : α}, xs[i]? = some x → (x :: xs.eraseIdx i).Perm xs
  | [], _, _, h => by cases h
  | y :: xs, 0, x, h => by
    cases h
    exact .refl _
  | y :: xs, i + 1, x, h => (List.Perm.swap y x _).trans ((erase_perm (xs := xs) (i := i) h).cons y)
theorem take_sum1 {ws : List Int} {i : Nat} {w : Int} (h : ws[i]? = some w) : (ws.take (i + 1)).sum = (ws.take i).sum + w := by
  rw [List.take_succ, h, List.sum_append]
  simp
theorem nd_inj {α : Type} {xs : List α} {i j : Nat} {x : α} (nd : xs.Nodup) (h1 : xs[i]? = some x) (h2 : xs[j]? = some x) : i = j := by
  have l1 := (List.getElem?_eq_some_iff.mp h1).1
  exact (List.getElem?_inj l1 nd).mp (h1.trans h2.symm)
theorem tpIns {H : Hp} {v : V} {d : PyData} : ∀ {i : Nat} {us : List V} {ds : List PyData}, TpAll H us ds → Tp H v d → TpAll H (us.take i ++ [v] ++ us.drop i) (ds.take i ++ [d] ++ ds.drop i)
  | 0, us, ds, t, h => .cons h t
  | i + 1, _, _, .nil, h => .cons h .nil
  | i + 1, _, _, .cons a b, h => .cons a (tpIns (i := i) b h)
theorem tpTake {H : Hp} : ∀ {i : Nat} {us : List V} {ds : List PyData}, TpAll H us ds → TpAll H (us.take i) (ds.take i)
  | 0, us, ds, t => .nil
  | i + 1, _, _, .nil => .nil
  | i + 1, _, _, .cons a b => .cons a (tpTake (i := i) b)
theorem tpRev {H : Hp} : ∀ {us : List V} {ds : List PyData}, TpAll H us ds → TpAll H us.reverse ds.reverse
  | _, _, .nil => .nil
  | _, _, .cons a b => by
    rw [List.reverse_cons, List.reverse_cons]
    exact tpSnoc (tpRev b) a
section
variable {X : Cx}
theorem pe_bmK {K : PySem.W.Frag} {o e : Expr} {es : List Expr} {to : TE} {t : TA} {name : Str} {apos cpos : Pos} {T id : String} {r : V → List V → Hp → VK → Prop}
    (pa : PlainAttrs T) (slot : Slot T name id) (hty : typeOf (.builtin id) = pure (.type "method_descriptor")) (hm : MtR X id r) (ho : PE X o to) (ha : PA X (e :: es) t) (hK : X.K = K := by rfl)
    (hbase : attributeBase o name X.env (eval o X.env) = eval o X.env := by rfl)
    (hfew : ((backTo cpos (starEach (e :: es) X.env)).all (fun x => !x.1) && (backToKw cpos (keywordEach [] X.env)).all (fun x => x.1.isSome)
      && decide ((e :: es).length + ([] : List Keyword).length + (if ([] : List Keyword).isEmpty then 0 else 1) < 30)) = true := by rfl)
    (hline : (apos.endLine == cpos.line) = true := by rfl) (hs : starEach (e :: es) X.env = (false, eval e X.env) :: starEach es X.env := by rfl) (hplain : (backTo cpos (starEach es X.env)).any (·.1) = false := by rfl) :
    PE X (.Call (.Attribute o name apos) (e :: es) [] cpos) (tBM K T r to t) := hK ▸ pe_bm pa slot hty hm ho ha hbase hfew hline hs hplain
def rSl3 (K : PySem.W.Frag) : V → Option Int → Option Int → Hp → VK → Prop := fun x lo hi H Q => rSl2 K x lo hi H Q ∨ rSlA K x lo hi H Q
theorem sl_3 : SlR X (rSl3 X.K) := sl_2.or sl_tupA
def rIns : V → List V → Hp → VK → Prop := fun x vs H Q => ∃ (l : Addr) (xs : List V) (i : Int) (y : V), x = .ref l ∧ vs = [.int i, y] ∧ H l = some (.lst xs) ∧ xs.length < sizeLine ∧ 0 ≤ i ∧ i < 2 ^ 63 ∧ Q .non (upd H l (.lst (xs.take i.toNat ++ [y] ++ xs.drop i.toNat)))
theorem mt_insert2 : MtR X "list.insert" rIns := mt_insert
end
section
variable {K : PySem.W.Frag} {σ : L2.St} {H : Hp} {Q : VK} {QT : Bool → Hp → Prop} {te : TE} {tr : TA} {v x y : V} {QA : List V → Hp → Prop} {a : Addr} {xs : List V}
def KSt (K : PySem.W.Frag) (x : V) (t : TA) (σ : L2.St) (H : Hp) (QA : List V → Hp → Prop) : Prop := ∃ p xs, x = V.ref p ∧ (SqT K H p xs ∨ SqL K H p xs) ∧ t σ H fun ys H2 => QA (xs ++ ys) H2
theorem a_star (h : te σ H fun x H1 => KSt K x tr σ H1 QA) : tStar K te tr σ H QA := h
theorem k_st (hs : Sq K H a xs) (h : tr σ H fun ys H2 => QA (xs ++ ys) H2) : KSt K (.ref a) tr σ H QA := ⟨a, xs, rfl, hs.symm, h⟩
theorem k_trQ (hs : Sq K H a xs) (h : QT (!xs.isEmpty) H) : KTr K (.ref a) H QT := hs.elim (fun s => k_trL s h) fun s => k_trT s h
theorem b_lenQ (hs : Sq K H a xs) (h : Q (.int xs.length) H) : rLn K [.ref a] H Q := hs.elim (fun s => b_lenL s h) fun s => b_lenT s h
theorem o_ixQ {j : Int} (hs : Sq K H a xs) (e : atI xs j = some v) (h : Q v H) : rIx K (.ref a) (.int j) H Q := hs.elim (fun s => o_ixL s e h) fun s => o_ixT s e h
theorem ix_intQ {ns : List Int} {i : Int} (hs : Sq K H a (ns.map V.int)) (h0 : 0 ≤ i) (h1 : i < ns.length) (h : ∀ x : Int, ns[i.toNat]? = some x → Q (.int x) H) : rIx K (.ref a) (.int i) H Q := by
  have e := List.getElem?_eq_getElem (l := ns) (i := i.toNat) (by omega)
  exact o_ixQ hs (atI_of (j := i.toNat) (by omega) (v := .int ns[i.toNat]) (by rw [List.getElem?_map, e]; rfl)) (h _ e)
theorem m_ins {i : Int} (e : H a = some (.lst xs)) (hz : xs.length < sizeLine) (h0 : 0 ≤ i) (h1 : i ≤ xs.length) (h : ∀ H2, Chg a H H2 → H2 a = some (.lst (xs.take i.toNat ++ [y] ++ xs.drop i.toNat)) → Q .non H2) : rIns (.ref a) [.int i, y] H Q :=
  ⟨a, xs, i, y, rfl, rfl, e, hz, h0, by have : sizeLine = 16777216 := sizeLine_eq; omega, h _ chg_upd upd_same⟩
theorem m_popI {i : Int} (e : H a = some (.lst xs)) (hz : xs.length < sizeLine) (h0 : 0 ≤ i) (h1 : i < xs.length) (g : xs[i.toNat]? = some y) (h : ∀ H2, Chg a H H2 → H2 a = some (.lst (xs.eraseIdx i.toNat)) → Q y H2) : rPopAt (.ref a) [.int i] H Q := by
  have hs : sizeLine = 16777216 := sizeLine_eq
  refine ⟨a, xs, i, i.toNat, y, rfl, rfl, e, by omega, by omega, ?_, g, h _ chg_upd upd_same⟩
  unfold seqIndex?
  have : ¬ i < 0 := by omega
  simp [this, h0, h1]
/-- v[1:] of either kind, walked -/
theorem cut1 (xs : List V) : cutV xs (some 1) none = xs.drop 1 := by
  unfold cutV
  rw [show (1 : Int) = ((1 : Nat) : Int) from rfl, HT.sIx_nat]
  simp [HT.sIx]
  cases xs with
  | nil => rfl
  | cons x r => simp
theorem w_cut1 {b : Addr} {n : V} {r : List V} {i : Nat} {R : It → Hp → Prop} (hs : Sq K H b (n :: r)) (e : σ[i]? = some (some (.ref b))) (h : ∀ J p H2, Same H H2 → SqIt K p r J H2 → R J H2) :
    iSeq K (tSl (rSl3 K) (tVar i) (tPart (tC (.int 1))) tNoPart) σ H R := by
  have e1 : cutV (n :: r) (some 1) none = r := by rw [cut1]; rfl
  rcases hs with hs | hs
  · refine .inl (w_l (e_sl (e_var e (p_so (e_c (k_int (p_no ?_)))))))
    refine .inl (l_L hs fun p H2 np s2 e2 => ?_)
    rw [e1] at e2
    exact k_l (lst_of e2) (h _ p _ s2 (.inl ⟨rfl, lst_of e2⟩))
  · refine .inr (w_t (e_sl (e_var e (p_so (e_c (k_int (p_no ?_)))))))
    refine .inr ⟨b, n :: r, rfl, hs, fun c => ?_, fun _ => new_same (Q := fun x H1 => Wy.KT K x H1 R) fun p H2 np s2 e2 => ?_⟩
    · have := c.1
      rw [show (1 : Int) = ((1 : Nat) : Int) from rfl, HT.sIx_nat, List.length_cons] at this
      omega
    · rw [e1] at e2
      exact k_t (tup_of e2) (h _ p _ s2 (.inr ⟨rfl, tup_of e2⟩))
end
/-! ### chains -/
def dsAt (ds : List Df) (n : Int) : Df := ds.getD n.toNat (0, 0, 0)
def inB (m : Nat) (n : Int) : Bool := decide (0 ≤ n) && decide (n < (m : Int))
def runC : Df → List Df → Option Df
  | t, [] => some t
  | t, d :: r => if d.1 = t.2.1 then runC (t.1, d.2.1, t.2.2 + d.2.2) r else none
def csum (ds : List Df) : List Int → Option Df
  | [] => none
  | n :: r => if (n :: r).all (inB ds.length) = true then runC (dsAt ds n) (r.map (dsAt ds)) else none
def ringB (ds : List Df) (ns : List Int) : Bool := match csum ds ns with
  | none => false
  | some t => decide (t.1 = t.2.1) && decide (t.2.2 < 0)
def floorV (ds : List Df) (ns : List Int) (k : Int) : Option Int := match csum ds ns with
  | none => none
  | some t => if t.1 = 0 ∧ t.2.1 = k then some (-t.2.2) else none
theorem csum_cons {ds : List Df} {n : Int} {r : List Int} : csum ds (n :: r) = if (n :: r).all (inB ds.length) = true then runC (dsAt ds n) (r.map (dsAt ds)) else none := rfl
theorem ringB_none {ds : List Df} {ns : List Int} (e : csum ds ns = none) : ringB ds ns = false := by
  unfold ringB
  rw [e]
theorem ringB_some {ds : List Df} {ns : List Int} {t : Df} (e : csum ds ns = some t) : ringB ds ns = (decide (t.1 = t.2.1) && decide (t.2.2 < 0)) := by
  unfold ringB
  rw [e]
theorem floorV_none {ds : List Df} {ns : List Int} {k : Int} (e : csum ds ns = none) : floorV ds ns k = none := by
  unfold floorV
  rw [e]
theorem floorV_some {ds : List Df} {ns : List Int} {t : Df} {k : Int} (e : csum ds ns = some t) : floorV ds ns k = if t.1 = 0 ∧ t.2.1 = k then some (-t.2.2) else none := by
  unfold floorV
  rw [e]
inductive Path : List Df → Int → Int → Int → Prop
  | nil {u : Int} : Path [] u u 0
  | cons {r : List Df} {u v z c s : Int} : Path r v z s → Path ((u, v, c) :: r) u z (c + s)
theorem Path.app {b : List Df} {z t : Int} : ∀ {a : List Df} {u v s : Int}, Path a u v s → Path b v z t → Path (a ++ b) u z (s + t)
  | _, _, _, _, .nil, h => by
    rw [Int.zero_add]
    exact h
  | _, _, _, _, .cons p, h => by
    rw [Int.add_assoc]
    exact .cons (p.app h)
theorem Path.split {b : List Df} {z : Int} : ∀ {a : List Df} {u s : Int}, Path (a ++ b) u z s → ∃ m s1 s2, Path a u m s1 ∧ Path b m z s2 ∧ s = s1 + s2
  | [], u, s, h => ⟨u, 0, s, .nil, h, by omega⟩
  | d :: a, u, s, h => by
    cases h with
    | cons p =>
      obtain ⟨m, s1, s2, h1, h2, e⟩ := p.split
      exact ⟨m, _, s2, .cons h1, h2, by omega⟩
theorem Path.one {u v c : Int} : Path [(u, v, c)] u v c := by
  have := Path.cons (u := u) (c := c) (Path.nil (u := v))
  rwa [Int.add_zero] at this
theorem run_path {f : Int} : ∀ {es : List Df} {l z s t : Int}, Path es l z s → runC (f, l, t) es = some (f, z, t + s)
  | _, _, _, _, t, .nil => by rw [Int.add_zero]; rfl
  | _, _, _, _, t, .cons p => by
    unfold runC
    rw [if_pos rfl, run_path p]
    simp only [Option.some.injEq, Prod.mk.injEq, true_and]
    omega
theorem csum_path {ds : List Df} {ns : List Int} {u z s : Int} (h : ∀ n ∈ ns, 0 ≤ n ∧ n < ds.length) (p : Path (ns.map (dsAt ds)) u z s) (ne : ns ≠ []) : csum ds ns = some (u, z, s) := by
  cases ns with
  | nil => exact absurd rfl ne
  | cons n r =>
    show (if (n :: r).all (inB ds.length) = true then runC (dsAt ds n) (r.map (dsAt ds)) else none) = _
    rw [if_pos (List.all_eq_true.mpr fun x hx => by
      obtain ⟨h1, h2⟩ := h x hx
      unfold inB
      rw [decide_eq_true h1, decide_eq_true h2]
      rfl)]
    rw [List.map_cons] at p
    generalize dsAt ds n = d at p
    obtain ⟨a, b, c⟩ := d
    cases p with
    | cons p => exact run_path p
theorem kept_path {vs : List Int} : ∀ {es : List Df} {u z s : Int}, Path es u z s → (∀ d ∈ es, kept vs d = true) → lv vs u - lv vs z ≤ s
  | _, _, _, _, .nil, _ => by omega
  | _, u, z, _, .cons (v := v) (c := c) p, h => by
    have h1 := kept_path p fun d hd => h d (List.mem_cons_of_mem _ hd)
    have h2 := of_decide_eq_true (h (u, v, c) List.mem_cons_self)
    simp only at h2
    omega
theorem path_of (nd ws : Nat → Int) : ∀ n : Nat, Path ((List.range n).map fun k => (nd k, nd (k + 1), ws k)) (nd 0) (nd n) (((List.range n).map ws).sum)
  | 0 => .nil
  | n + 1 => by
    rw [List.range_succ, List.map_append, List.map_append, List.sum_append]
    refine (path_of nd ws n).app ?_
    simp only [List.map_cons, List.map_nil, List.sum_cons, List.sum_nil, Int.add_zero]
    exact Path.one
theorem path_rot {es : List Df} {u s : Int} (k : Nat) (p : Path es u u s) : ∃ m, Path (es.drop k ++ es.take k) m m s := by
  rw [← List.take_append_drop k es] at p
  obtain ⟨m, s1, s2, h1, h2, e⟩ := p.split
  refine ⟨m, ?_⟩
  rw [e, Int.add_comm]
  exact h2.app h1
theorem take_sum {ws : List Int} {n : Nat} (h : n ≤ ws.length) : (List.range n).map (fun k => ws.getD k 0) = ws.take n := by
  refine List.ext_getElem? fun j => ?_
  rw [List.getElem?_map, List.getElem?_take]
  by_cases hj : j < n
  · rw [List.getElem?_range hj, if_pos hj, List.getElem?_eq_getElem (by omega)]
    show some (ws.getD j 0) = _
    rw [List.getD_eq_getElem?_getD, List.getElem?_eq_getElem (by omega)]
    rfl
  · rw [List.getElem?_eq_none (by rw [List.length_range]; omega), if_neg hj]
    rfl
section
variable {K : PySem.W.Frag}
/-- the sum of a chain -/
def spChain (K : PySem.W.Frag) : Sp := fun vs H Q _ => ∃ (a b : Addr) (us : List V) (ds : List Df) (ns : List Int), vs = [.ref a, .ref b] ∧ Sq K H a us ∧ TpAll H us (ds.map dfD) ∧ Sq K H b (ns.map V.int) ∧ ds.length ≤ 1000 ∧ ns.length ≤ 1000 ∧
  (csum ds ns = none → ∀ H', Same H H' → Q .non H') ∧ ∀ t : Df, csum ds ns = some t → ∀ p H', Same H H' → H p = none → H' p = some (.tup [.int t.1, .int t.2.1, .int t.2.2]) → Q (.ref p) H'
def spRing (K : PySem.W.Frag) : Sp := fun vs H Q _ => ∃ (a b : Addr) (us : List V) (ds : List Df) (ns : List Int), vs = [.ref a, .ref b] ∧ Sq K H a us ∧ TpAll H us (ds.map dfD) ∧ Sq K H b (ns.map V.int) ∧ ds.length ≤ 1000 ∧ ns.length ≤ 1000 ∧
  ∀ H', Same H H' → Q (.bl (ringB ds ns)) H'
def oI : Option Int → V
  | none => .non
  | some i => .int i
def spFloor (K : PySem.W.Frag) : Sp := fun vs H Q _ => ∃ (a b : Addr) (us : List V) (ds : List Df) (ns : List Int) (k : Int), vs = [.ref a, .ref b, .int k] ∧ Sq K H a us ∧ TpAll H us (ds.map dfD) ∧ Sq K H b (ns.map V.int) ∧ ds.length ≤ 1000 ∧ ns.length ≤ 1000 ∧
  ∀ H', Same H H' → Q (oI (floorV ds ns k)) H'
def spKeeps (K : PySem.W.Frag) : Sp := fun vs H Q _ => ∃ (a b : Addr) (us : List V) (ds : List Df) (vals : List Int), vs = [.ref a, .ref b] ∧ Sq K H a us ∧ TpAll H us (ds.map dfD) ∧ Sq K H b (vals.map V.int) ∧ (∀ d ∈ ds, InR vals.length d) ∧
  ds.length ≤ 1000 ∧ vals.length ≤ 900 ∧ ∀ H', Same H H' → Q (.bl (ds.all (kept vals))) H'
def spTells : Sp := fun vs H Q _ => ∃ x y : Bool, vs = [.bl x, .bl y] ∧ Q (.bl (decide (x = y))) H
def spWt : Sp := fun vs H Q _ => ∃ d : Int, vs = [.int d] ∧ ∀ r : Int, Q (.int r) H
def spDiffs (K : PySem.W.Frag) : Sp := fun vs H Q _ => ∃ (a : Addr) (zs : List Int) (pl : Int) (n m : Nat), vs = [.ref a, .int pl, .int n, .int m] ∧ SqL K H a (zs.map V.int) ∧ n ≤ 100 ∧ m ≤ 1000 ∧
  ∀ p us H' ds, Same H H' → H p = none → H' p = some (.lst us) → TpAll H' us ((ds : List Df).map dfD) → ds.length = n → (∀ d ∈ ds, InR m d) → Q (.ref p) H'
end
end WC
/-! WE: comprehensions of the laws. -/
namespace WE
open PySem PySem.Spec PyProof.Rows L2 Wy WN WQ WS WC
section
variable {K : PySem.W.Frag} {σ : L2.St} {H : Hp} {Q : VK} {te : TE} {vs : List Nat} {i : Nat} {a : Addr}
/-- one value again and again -/
theorem c_const {lo : Int} {n : Nat} {v : V} (hte : ∀ σ H (N : VK), N v H → te σ H N) (hz : n ≤ 100000) (hw : ∀ x, wipe ((wipe σ vs).set i (some x)) vs = wipe σ vs) (post : ∀ D H2, H D = none → Same H H2 → H2 D = some (.lst (List.replicate n v)) → Q (.ref D) H2) :
    LoopC (Itr lo n) (gName i) tYes te vs σ H Q := by
  refine c_accR (One fun _ y _ => y = v) (fun _ _ _ _ _ h => h) (fun i acc H hi h => small1000' (by rw [h.1]; omega)) One.zero (fun j H1 acc N M hj s1 o hN hM => ?_) (fun D H1 ys nD s1 e1 o => ?_)
  · refine g_name ⟨hw _, t_yes ?_⟩
    exact iteTT rfl (hte _ _ _ (hN _ _ (Same.refl _) (o.snoc (fun _ _ h => h) rfl)))
  · rw [o.const] at e1
    exact post D H1 nD s1 e1
theorem c_constI {lo : Int} {n : Nat} {c : Int} (hte : ∀ σ H (N : VK), N (.int c) H → te σ H N) (hz : n ≤ 100000) (hw : ∀ x, wipe ((wipe σ vs).set i (some x)) vs = wipe σ vs) (post : ∀ D H2, H D = none → Same H H2 → H2 D = some (.lst ((List.replicate n c).map V.int)) → Q (.ref D) H2) :
    LoopC (Itr lo n) (gName i) tYes te vs σ H Q := c_const hte hz hw fun D H2 nD s e => post D H2 nD s (by rw [List.map_replicate]; exact e)
/-- an int from each int -/
theorem c_ints {xs : List Int} (hs : SqL K H a (xs.map V.int)) (hte : ∀ (x : Int) H (N : VK), (∀ r : Int, N (.int r) H) → te ((wipe σ vs).set i (some (.int x))) H N) (hz : xs.length ≤ 100000) (hw : ∀ x, wipe ((wipe σ vs).set i (some x)) vs = wipe σ vs)
    (post : ∀ D H2 (rs : List Int), H D = none → Same H H2 → rs.length = xs.length → H2 D = some (.lst (rs.map V.int)) → Q (.ref D) H2) : LoopC (Itl K a) (gName i) tYes te vs σ H Q := by
  refine c_acc (xs := xs.map V.int) (.inl ⟨rfl, hs⟩) (One fun _ y _ => ∃ r : Int, y = .int r) (fun _ _ _ _ _ h => h) (fun i acc H hi h => small1000' (by rw [h.1]; rw [List.length_map] at hi; omega)) One.zero (fun j x H1 acc N M hx s1 o hN hM => ?_) (fun D H1 ys nD s1 e1 o => ?_)
  · rw [List.getElem?_map] at hx
    obtain ⟨d, gd, rfl⟩ := Option.map_eq_some_iff.mp hx
    refine g_name ⟨hw _, t_yes ?_⟩
    exact iteTT rfl (hte _ _ _ fun r => hN _ _ (Same.refl _) (o.snoc (fun _ _ h => h) ⟨r, rfl⟩))
  · rw [List.length_map] at o
    obtain ⟨rs, rfl, lr⟩ := o.ints fun _ _ _ h => h
    exact post D H1 rs nD s1 lr e1
/-- ints by place -/
theorem c_rng {lo : Int} {n : Nat} (F : Nat → Int) (hte : ∀ (j : Nat) H (N : VK), j < n → N (.int (F j)) H → te ((wipe σ vs).set i (some (.int (lo + j)))) H N) (hz : n ≤ 100000) (hw : ∀ x, wipe ((wipe σ vs).set i (some x)) vs = wipe σ vs)
    (post : ∀ D H2, H D = none → Same H H2 → H2 D = some (.lst (((List.range n).map F).map V.int)) → Q (.ref D) H2) : LoopC (Itr lo n) (gName i) tYes te vs σ H Q := by
  refine c_accR (One fun j y _ => y = .int (F j)) (fun _ _ _ _ _ h => h) (fun i acc H hi h => small1000' (by rw [h.1]; omega)) One.zero (fun j H1 acc N M hj s1 o hN hM => ?_) (fun D H1 ys nD s1 e1 o => ?_)
  · refine g_name ⟨hw _, t_yes ?_⟩
    exact iteTT rfl (hte _ _ _ hj (hN _ _ (Same.refl _) (o.snoc (fun _ _ h => h) rfl)))
  · have ey := o.eqR fun j y _ h => h
    rw [ey] at e1
    exact post D H1 nD s1 (by rw [List.map_map]; exact e1)
/-- one datum by place -/
theorem c_tps {lo : Int} {n : Nat} (F : Nat → PyData) (hte : ∀ (j : Nat) H1 (N : VK), j < n → Same H H1 → (∀ y H3, Same H1 H3 → Tp H3 y (F j) → N y H3) → te ((wipe σ vs).set i (some (.int (lo + j)))) H1 N) (hz : n ≤ 100000) (hw : ∀ x, wipe ((wipe σ vs).set i (some x)) vs = wipe σ vs)
    (post : ∀ D H2 us, H D = none → Same H H2 → H2 D = some (.lst us) → TpAll H2 us ((List.range n).map F) → Q (.ref D) H2) : LoopC (Itr lo n) (gName i) tYes te vs σ H Q := by
  refine c_accR (One fun j y H => Tp H y (F j)) (fun i acc H H' k h => ⟨h.1, fun j y e => (h.2 j y e).tk k⟩) (fun i acc H hi h => small1000' (by rw [h.1]; omega)) One.zero (fun j H1 acc N M hj s1 o hN hM => ?_) (fun D H1 ys nD s1 e1 o => ?_)
  · refine g_name ⟨hw _, t_yes ?_⟩
    exact iteTT rfl (hte _ _ _ hj s1 fun y H3 s3 t => hN _ _ s3 (o.snoc (fun _ _ h => h.tk s3.tk) t))
  · exact post D H1 ys nD s1 e1 (tpOne o fun j y _ h => h)
theorem c_rngV {lo : Int} {n : Nat} (F : Nat → V) (hte : ∀ (j : Nat) H (N : VK), j < n → (∀ H3, Same H H3 → N (F j) H3) → te ((wipe σ vs).set i (some (.int (lo + j)))) H N) (hz : n ≤ 100000) (hw : ∀ x, wipe ((wipe σ vs).set i (some x)) vs = wipe σ vs)
    (post : ∀ D H2, H D = none → Same H H2 → H2 D = some (.lst ((List.range n).map F)) → Q (.ref D) H2) : LoopC (Itr lo n) (gName i) tYes te vs σ H Q := by
  refine c_accR (One fun j y _ => y = F j) (fun _ _ _ _ _ h => h) (fun i acc H hi h => small1000' (by rw [h.1]; omega)) One.zero (fun j H1 acc N M hj s1 o hN hM => ?_) (fun D H1 ys nD s1 e1 o => ?_)
  · refine g_name ⟨hw _, t_yes ?_⟩
    exact iteTT rfl (hte _ _ _ hj (fun H3 s3 => hN _ _ s3 (o.snoc (fun _ _ h => h) rfl)))
  · have ey := o.eqR fun j y _ h => h
    rw [ey] at e1
    exact post D H1 nD s1 e1
def KRev (K : PySem.W.Frag) (x : V) (H : Hp) (Q : VK) : Prop := ∃ a xs, x = V.ref a ∧ SqL K H a xs ∧ ∀ p, H p = none → Q (.ref p) (upd H p (.lst xs.reverse))
theorem e_revL (h : te σ H fun x H1 => KRev K x H1 Q) : tRevL K te σ H Q := h
theorem k_rev {xs : List V} (e : H a = some (.lst xs)) (h : ∀ p H2, H p = none → Same H H2 → H2 p = some (.lst xs.reverse) → Q (.ref p) H2) : KRev K (.ref a) H Q := ⟨a, xs, rfl, lst_of e, new_same h⟩
theorem ix_pick {c : Bool} {u v : V} (e : H a = some (.lst [u, v])) (h : Q (if c then v else u) H) : rIx K (.ref a) (.int (if c = true then 1 else 0)) H Q := by
  cases c with
  | true => exact o_ixL (lst_of e) (v := v) rfl h
  | false => exact o_ixL (lst_of e) (v := u) rfl h
theorem o_isB {a b : Bool} (h : Q (.bl (decide (a = b))) H) : rIsB (.bl a) (.bl b) H Q := ⟨a, b, rfl, rfl, h⟩
theorem o_ntB {a b : Bool} (h : Q (.bl (!decide (a = b))) H) : rNotB (.bl a) (.bl b) H Q := ⟨a, b, rfl, rfl, h⟩
theorem cutTo (xs : List V) {i : Int} (h : 0 ≤ i) : cutV xs none (some i) = xs.take i.toNat := by
  obtain ⟨k, rfl⟩ : ∃ k : Nat, i = k := ⟨i.toNat, by omega⟩
  unfold cutV
  rw [HT.sIx_nat, HT.sIx_none, List.drop_zero, Nat.sub_zero, Int.toNat_natCast]
  by_cases hk : k ≤ xs.length
  · rw [Nat.min_eq_left hk]
  · rw [Nat.min_eq_right (by omega), List.take_of_length_le (Nat.le_refl _), List.take_of_length_le (by omega)]
theorem cutFrom (xs : List V) {i : Int} (h : 0 ≤ i) : cutV xs (some i) none = xs.drop i.toNat := by
  obtain ⟨k, rfl⟩ : ∃ k : Nat, i = k := ⟨i.toNat, by omega⟩
  unfold cutV
  rw [HT.sIx_nat, HT.sIx_none, Int.toNat_natCast]
  by_cases hk : k ≤ xs.length
  · rw [Nat.min_eq_left hk, List.take_of_length_le (by rw [List.length_drop]; omega)]
  · rw [Nat.min_eq_right (by omega), List.drop_of_length_le (Nat.le_refl _), List.drop_of_length_le (by omega)]
    simp
theorem ne_ints {H : Hp} {a b v : Addr} {rs : List V} {xs : List Int} (h1 : H a = some (.lst (.ref v :: rs))) (h2 : H b = some (.lst (xs.map V.int))) : b ≠ a := by
  intro e
  subst e
  rw [h1] at h2
  cases xs <;> cases h2
end
end WE
/-! WO: instances of own classes. -/
namespace WO
open PySem PySem.Spec PyProof.Rows L2 Wy WN WQ
/-- a method of a class of the top -/
structure MetOk (K : PySem.W.Frag) (C m qual : Str) (st : Stmt) : Prop where
  ex : ∃ f fd, FunD K m qual (defArgs st) (defBody st) (defScope st) [] [] f fd ∧ Meth K (He.ga K C) m f
structure MakOk (K : PySem.W.Frag) (mg : Str → Option Value) (C qual : Str) (st : Stmt) : Prop where
  ex : ∃ f fd, FunD K "__init__" qual (defArgs st) (defBody st) (defScope st) [] [] f fd ∧ Mk K (He.ga K C) f ∧ mg C = some (.ref (He.ga K C))
section
variable {P : Program} {w : World} {K : PySem.W.Frag} {mg : Str → Option Value} {base : Heap} {C m qual : Str} {st : Stmt} {N ps : List Str} {k : Nat} {sp : Sp}
theorem met_of (F : MetOk K C m qual st) (cl : Cls K (He.ga K C)) (S : FnScope N ps (defScope st)) (hb : ∀ f fd, FunD K m qual (defArgs st) (defBody st) (defScope st) [] [] f fd → Binds K fd ps []) (len : ∀ vs H Q E, sp vs H Q E → vs.length = ps.length)
    (body : ∀ (f : Addr) (cdv : Value) (A : Around) (outer : List Env) (s : Shared) (H : Hp) (vs : List V) (Q : VK) (E : XK), Room k (A.deeper (envOfC qual (defScope st) s.heap.objs.size f cdv)) → sp vs H Q E →
      ∃ t, PSs (cxOf CX0 P w K mg base N qual (defScope st) f cdv A outer s H E).nox (defBody st) t ∧ t { nx := fun _ H' => Q .non H', rt := Q } (start N vs) H) : C8.Met P w K mg base (k + 1) (He.ga K C) m sp [] := by
  obtain ⟨f, fd, F, hm⟩ := F.ex
  refine ⟨f, fd, ps, [], cl, hm, F.ok S len fun cdv A outer s H vs Q E hr h => ?_, hb f fd F, .nil⟩
  obtain ⟨t, h1, h2⟩ := body f cdv A outer s H vs Q E hr h
  exact ⟨t, PSs.nox h1, h2⟩
theorem mak_of (F : MakOk K mg C qual st) (S : FnScope N ps (defScope st)) (hb : ∀ f fd, FunD K "__init__" qual (defArgs st) (defBody st) (defScope st) [] [] f fd → Binds K fd ps []) (len : ∀ vs H Q E, sp vs H Q E → vs.length = ps.length)
    (body : ∀ (f : Addr) (cdv : Value) (A : Around) (outer : List Env) (s : Shared) (H : Hp) (vs : List V) (Q : VK) (E : XK), Room k (A.deeper (envOfC qual (defScope st) s.heap.objs.size f cdv)) → sp vs H Q E →
      ∃ t, PSs (cxOf CX0 P w K mg base N qual (defScope st) f cdv A outer s H E).nox (defBody st) t ∧ t { nx := fun _ H' => Q .non H', rt := Q } (start N vs) H) : C8.Mak P w K mg base (k + 1) C (He.ga K C) sp [] := by
  obtain ⟨f, fd, F, hm, hg⟩ := F.ex
  refine ⟨f, fd, ps, [], hm, F.ok S len fun cdv A outer s H vs Q E hr h => ?_, hg, hb f fd F, .nil⟩
  obtain ⟨t, h1, h2⟩ := body f cdv A outer s H vs Q E hr h
  exact ⟨t, PSs.nox h1, h2⟩
end
section
variable {X : Cx}
theorem pe_fldK {K : PySem.W.Frag} {e : Expr} {f : Str} {pos : Pos} {ta : TE} (he : PE X e ta) (hK : X.K = K := by rfl) (hb : attributeBase e f X.env (eval e X.env) = eval e X.env := by rfl) : PE X (.Attribute e f pos) (tFld K ta f) := hK ▸ pe_fld he hb
theorem ps_fldK {K : PySem.W.Frag} {o value : Expr} {f : Str} {pos pos' : Pos} {ta tv : TE} (ha : PE X o ta) (hv : PE X value tv) (hK : X.K = K := by rfl) (hs : swapsWith value (some (.Attribute o f pos')) pos.line X.env = pure false := by rfl) :
    PS X (.Assign [.Attribute o f pos'] value pos) (sFld K ta tv f) := hK ▸ ps_fld ha hv hs
theorem ps_fldaugK {K : PySem.W.Frag} {o value : Expr} {f : Str} {pos pos' : Pos} {ta tv : TE} {op : Operator} {rd : V → V → Hp → VK → Prop} (ha : PE X o ta) (hv : PE X value tv) (hop : InOp X op rd) (hK : X.K = K := by rfl) :
    PS X (.AugAssign (.Attribute o f pos') op value pos) (sFldAug K ta tv rd f) := hK ▸ ps_fldaug ha hv hop
end
section
variable {K : PySem.W.Frag} {σ : L2.St} {H : Hp} {Q : VK} {D : Ends} {te ta tv : TE} {tl : TA} {v x y : V} {a C dx : Addr} {fs : List (Str × V)} {f m : Str} {sp : Sp} {dvs : List V} {E : XK}
def KFld (K : PySem.W.Frag) (f : Str) (x : V) (H : Hp) (Q : VK) : Prop := ∃ a C dx fs v, x = V.ref a ∧ H a = some (.ins C dx fs) ∧ Cls K C ∧ NoAttr K C f ∧ fs.lookup f = some v ∧ Q v H
theorem e_fld (h : te σ H fun x H1 => KFld K f x H1 Q) : tFld K te f σ H Q := h
theorem k_fld (e : H a = some (.ins C dx fs)) (c : Cls K C) (n : NoAttr K C f) (l : fs.lookup f = some v) (h : Q v H) : KFld K f (.ref a) H Q := ⟨a, C, dx, fs, v, rfl, e, c, n, l, h⟩
def KFldS (K : PySem.W.Frag) (f : Str) (y : V) (D : Ends) (σ : L2.St) (x : V) (H : Hp) : Prop := ∃ a C dx fs, x = V.ref a ∧ H a = some (.ins C dx fs) ∧ Cls K C ∧ NoAttr K C f ∧ fs.length < 1000 ∧ D.nx σ (upd H a (.ins C dx (putF f y fs)))
theorem s_fld (h : tv σ H fun y H1 => ta σ H1 fun x H2 => KFldS K f y D σ x H2) : sFld K ta tv f D σ H := h
theorem k_fldS (e : H a = some (.ins C dx fs)) (c : Cls K C) (n : NoAttr K C f) (l : fs.length < 1000) (h : ∀ H2, Chg a H H2 → H2 a = some (.ins C dx (putF f y fs)) → D.nx σ H2) : KFldS K f y D σ (.ref a) H := ⟨a, C, dx, fs, rfl, e, c, n, l, h _ chg_upd upd_same⟩
def KMeth (C : Addr) (m : Str) (sp : Sp) (dvs : List V) (E : XK) (t : TA) (σ : L2.St) (x : V) (H : Hp) (Q : VK) : Prop := ∃ a dx fs, x = V.ref a ∧ H a = some (.ins C dx fs) ∧ fs.lookup m = none ∧ t σ H fun vs H2 => sp (x :: (vs ++ dvs)) H2 Q E
theorem e_meth (h : te σ H fun x H1 => KMeth C m sp dvs E tl σ x H1 Q) : tMeth C m sp dvs E te tl σ H Q := h
theorem k_meth (e : H a = some (.ins C dx fs)) (l : fs.lookup m = none) (h : tl σ H fun vs H2 => sp (.ref a :: (vs ++ dvs)) H2 Q E) : KMeth C m sp dvs E tl σ (.ref a) H Q := ⟨a, dx, fs, rfl, e, l, h⟩
def KMake (C : Addr) (sp : Sp) (dvs : List V) (E : XK) (vs : List V) (H1 : Hp) (Q : VK) : Prop := ∀ x dx, H1 x = none → H1 dx = none → dx ≠ x → sp (.ref x :: (vs ++ dvs)) (upd (upd H1 dx (.own x)) x (.ins C dx [])) (fun v H2 => v = .non ∧ Q (.ref x) H2) E
theorem e_make (h : tl σ H fun vs H1 => KMake C sp dvs E vs H1 Q) : tMake C sp dvs E tl σ H Q := h
theorem k_make {vs : List V} (h : ∀ x dx H2, H x = none → H dx = none → dx ≠ x → Same H H2 → H2 x = some (.ins C dx []) → H2 dx = some (.own x) → sp (.ref x :: (vs ++ dvs)) H2 (fun v H3 => v = .non ∧ Q (.ref x) H3) E) : KMake C sp dvs E vs H Q := fun x dx nx nd ne =>
  h x dx _ nx nd ne (fun b o e => by rw [upd_ne (ne_of_none e nx), upd_ne (ne_of_none e nd)]; exact e) upd_same (by rw [upd_ne ne]; exact upd_same)
end
section
variable {K : PySem.W.Frag} {H : Hp} {Q : VK} {a b : Addr} {xs ys : List V}
theorem o_catT (ha : H a = some (.tup xs)) (hb : H b = some (.tup ys)) (hz : xs.length + ys.length ≤ sizeLine) (h : ∀ p H2, Same H H2 → H2 p = some (.tup (xs ++ ys)) → Q (.ref p) H2) : rCatA K (.ref a) (.ref b) H Q := by
  refine ⟨a, b, xs, ys, rfl, rfl, tup_of ha, tup_of hb, hz, fun e => h _ _ (Same.refl _) ?_, fun _ e => h _ _ (Same.refl _) ?_, fun _ _ => new_same fun p H2 _ s e => h _ _ s e⟩
  · rw [e, List.nil_append]
    exact hb
  · rw [e, List.append_nil]
    exact ha
end
/-! ### walks of any kind -/
section
variable {K : PySem.W.Frag} {σ : L2.St} {H : Hp} {Q : VK} {D : Ends} {t : TS} {te : TE} {tt : TT} {g : TG} {vs : List Nat} {J : It} {n : Nat} {G : Hp → Prop} {Y : Nat → Hp → V → Hp → Prop} {tl : TA}
theorem f_it (w : Walk J n G Y) (Pv : Nat → L2.St → Hp → Prop) (h0 : Pv 0 σ H) (hG : ∀ i σ H, i ≤ n → Pv i σ H → G H)
    (hs : ∀ i x σ H H', i < n → Pv i σ H → Y i H x H' → g x σ H' fun σ2 H2 => t ⟨Pv (i + 1), D.rt, D.nx, Pv (i + 1)⟩ σ2 H2) (hd : ∀ σ H, Pv n σ H → D.nx σ H) : LoopF J g t D σ H := for_it w Pv h0 hG hs hd
/-- a comprehension: what is taken so far, kept while only the new list changes -/
theorem c_it (w : Walk J n G Y) (R : Addr → Nat → List V → Hp → Prop) (hG : ∀ H', Same H H' → G H') (hY : ∀ i H1 x H2, Y i H1 x H2 → Same H1 H2) (small : n < sizeLine) (len : ∀ D i acc H1, R D i acc H1 → acc.length ≤ i)
    (mono : ∀ D i acc H1 H2, Chg D H1 H2 → (∃ ys, H1 D = some (.lst ys)) → R D i acc H1 → R D i acc H2) (r0 : ∀ D H1, H D = none → Same H H1 → H1 D = some (.lst []) → R D 0 [] H1)
    (step : ∀ D i x H1 H2 acc (N : VK) (M : Hp → Prop), i < n → H D = none → Same H H1 → H1 D = some (.lst acc) → R D i acc H1 → Y i H1 x H2 → Same H1 H2 → (∀ y H3, Same H2 H3 → R D (i + 1) (acc ++ [y]) H3 → N y H3) → (∀ H3, Same H2 H3 → R D (i + 1) acc H3 → M H3) →
      g x (wipe σ vs) H2 fun σ2 H2 => wipe σ2 vs = wipe σ vs ∧ tt σ2 H2 fun b H3 => if b = true then te σ2 H3 N else M H3)
    (post : ∀ D H2 ys, H D = none → Same H H2 → H2 D = some (.lst ys) → R D n ys H2 → Q (.ref D) H2) : LoopC J g tt te vs σ H Q := by
  intro D nD
  refine lc_it w (fun i H1 => Same H H1 ∧ ∃ acc, H1 D = some (.lst acc) ∧ R D i acc H1) ⟨same_new nD, [], upd_same, r0 D _ nD (same_new nD) upd_same⟩ (fun i H1 _ p => hG _ p.1) (fun i x H1 H2 hi p y => ?_) (fun H1 ⟨s1, acc, e1, r1⟩ => post D H1 acc nD s1 e1 r1)
  obtain ⟨s1, acc, e1, r1⟩ := p
  have s2 := hY _ _ _ _ y
  refine step D i x H1 H2 acc _ _ hi nD s1 e1 r1 y s2 (fun y H3 s3 r3 => ?_) (fun H3 s3 r3 => ⟨s1.trans (s2.trans s3), acc, s3 _ _ (s2 _ _ e1), r3⟩)
  have e3 := s3 _ _ (s2 _ _ e1)
  refine ⟨acc, e3, by have := len D i acc H1 r1; omega, (chg_upd (p := D)).same (s1.trans (s2.trans s3)) nD, _, upd_same, mono D _ _ _ _ chg_upd ⟨_, e3⟩ r3⟩
theorem yat_same {xs : List V} {i : Nat} {H1 H2 : Hp} {x : V} (y : YAt xs i H1 x H2) : Same H1 H2 := by
  rw [y.1]
  exact Same.refl _
theorem ypair_same {f1 f2 : Nat → Option V} {i : Nat} {H1 H2 : Hp} {x : V} (y : YPair f1 f2 i H1 x H2) : Same H1 H2 := by
  obtain ⟨T, a, b, rfl, h, rfl, _⟩ := y
  exact same_new h
/-- new lists by place -/
theorem c_rows {lo : Int} {i : Nat} (F : Nat → List V) (hte : ∀ (j : Nat) H1 (N : VK), j < n → Same H H1 → (∀ r H3, Same H1 H3 → H1 r = none → H3 r = some (.lst (F j)) → N (.ref r) H3) → te ((wipe σ vs).set i (some (.int (lo + j)))) H1 N) (hz : n ≤ 100000) (hw : ∀ x, wipe ((wipe σ vs).set i (some x)) vs = wipe σ vs)
    (post : ∀ D H2 (rs : List Addr), H D = none → Same H H2 → H2 D = some (.lst (rs.map V.ref)) → rs.length = n → (∀ (j : Nat) (r : Addr), rs[j]? = some r → H r = none ∧ H2 r = some (.lst (F j))) → Q (.ref D) H2) : LoopC (Itr lo n) (gName i) tYes te vs σ H Q := by
  refine c_it (walk_range (lo := lo) (n := n)) (fun D i acc H4 => acc.length = i ∧ ∀ (j : Nat) (y : V), acc[j]? = some y → ∃ r, y = .ref r ∧ r ≠ D ∧ H r = none ∧ H4 r = some (.lst (F j))) (fun _ _ => True.intro) (fun i H1 x H2 y => by rw [y.1]; exact Same.refl _) (small1000' hz)
    (fun D i acc H1 o => Nat.le_of_eq o.1) (fun D i acc H5 H6 c ⟨ys, e⟩ o => ⟨o.1, fun j y g => ?_⟩) (fun D H4 nD s e => ⟨rfl, fun j y g => by cases g⟩) (fun D j xx H4 H5 acc N M' hi nD s4 eD o y s5 hN hM => ?_) (fun D H4 ys nD s4 e4 o => ?_)
  · obtain ⟨r, rfl, hr, hr0, f⟩ := o.2 j y g
    exact ⟨r, rfl, hr, hr0, c.at f hr⟩
  · obtain ⟨rfl, rfl⟩ := y
    refine g_name ⟨hw _, t_yes ?_⟩
    refine iteTT rfl (hte j _ _ hi s4 fun r H6 s6 n6 e6 => ?_)
    refine hN _ _ s6 ⟨by rw [List.length_append, o.1]; rfl, fun k y g => ?_⟩
    by_cases hj : k < acc.length
    · rw [List.getElem?_append_left hj] at g
      obtain ⟨r1, rfl, hr, hr0, f⟩ := o.2 k y g
      exact ⟨r1, rfl, hr, hr0, s6 _ _ f⟩
    · have hj2 := (List.getElem?_eq_some_iff.mp g).1
      rw [List.length_append, List.length_singleton] at hj2
      have : k = acc.length := by omega
      subst this
      rw [List.getElem?_append_right (Nat.le_refl _), Nat.sub_self] at g
      cases g
      refine ⟨r, rfl, fun e => ?_, s4.free n6, by rw [o.1]; exact e6⟩
      subst e
      rw [eD] at n6
      cases n6
  · obtain ⟨rs, rfl⟩ : ∃ rs : List Addr, ys = rs.map V.ref := by
      have : ∀ ys : List V, (∀ y ∈ ys, ∃ r, y = .ref r) → ∃ rs : List Addr, ys = rs.map V.ref := by
        intro ys
        induction ys with
        | nil => exact fun _ => ⟨[], rfl⟩
        | cons y r ih =>
          intro h
          obtain ⟨i, rfl⟩ := h y List.mem_cons_self
          obtain ⟨xs, rfl⟩ := ih fun z hz => h z (List.mem_cons_of_mem _ hz)
          exact ⟨i :: xs, rfl⟩
      exact this ys fun y hy => by
        obtain ⟨j, hj, e⟩ := List.getElem_of_mem hy
        obtain ⟨r, h, _⟩ := o.2 j y (by rw [List.getElem?_eq_getElem hj, e])
        exact ⟨r, h⟩
    have lr := o.1
    rw [List.length_map] at lr
    refine post D H4 rs nD s4 e4 lr fun j r g => ?_
    obtain ⟨r', h, _, h2, h3⟩ := o.2 j (.ref r) (by rw [List.getElem?_map, g]; rfl)
    cases h
    exact ⟨h2, h3⟩
theorem w_zip {R : It → Hp → Prop} (h : tl σ H fun vs H1 => ∃ a b xs ys, vs = [.ref a, .ref b] ∧ SqL K H1 a xs ∧ SqL K H1 b ys ∧ R (Itz K a b) H1) : iZip K tl σ H R := h
theorem w_enum {R : It → Hp → Prop} (h : tl σ H fun vs H1 => ∃ a xs, vs = [.ref a] ∧ SqL K H1 a xs ∧ R (Ite K a) H1) : iEnum K tl σ H R := h
end
end WO
local macro_rules | `(tactic| walk_at "x") => `(tactic| with_reducible first
  | refine WO.e_fld ?_ | refine WO.s_fld ?_ | refine WO.e_meth ?_ | refine WO.e_make ?_ | refine WC.a_star ?_ | refine WE.e_revL ?_ | (apply WE.k_rev; walk_at "hp"; intro _ _ _ _ _)
  | (apply WO.k_fld; walk_at "hp"; assumption; assumption; with_unfolding_all rfl)
  | (apply WO.k_meth; walk_at "hp"; with_unfolding_all rfl)
  | refine WO.w_zip ?_ | refine WO.w_enum ?_)
/-! WT: tables of bounds. -/
namespace WT
open PySem PySem.Spec PyProof.Rows L2 Wy WN WQ WS WC
abbrev Cell := Option (Int × List Int)
def cellD : Cell → PyData
  | none => .none
  | some p => .tuple [.int p.1, iT p.2]
def joinC (a b : Int × List Int) : Int × List Int := (a.1 + b.1, a.2 ++ b.2)
def shorter (old : Cell) (th : Int × List Int) : Cell → Cell
  | none => old
  | some r => match old with
    | some o => if o.1 ≤ th.1 + r.1 then some o else some (joinC th r)
    | none => some (joinC th r)
theorem shorter_some {o th r : Int × List Int} : shorter (some o) th (some r) = if o.1 ≤ th.1 + r.1 then some o else some (joinC th r) := rfl
def rowStep (known : List Cell) (before : Cell) (step : Int × List Int) (behind : List Cell) : List Cell := match before with
  | none => known
  | some b => (known.zip behind).map fun p => shorter p.1 (joinC b step) p.2
abbrev Tab := List (List Cell)
def cell (M : Tab) (i j : Nat) : Cell := (M.getD i []).getD j none
def bring (M : Tab) (u v : Nat) (step : Int × List Int) : Tab := M.map fun known => rowStep known (known.getD u none) step (M.getD v [])
def Sq2 (M : Tab) (n : Nat) : Prop := M.length = n + 1 ∧ ∀ row ∈ M, row.length = n + 1
/-- the ring that a difference closes -/
def ringOf (M : Tab) (d : Df) : Option (List Int) := match cell M d.2.1.toNat d.1.toNat with
  | some b => if d.2.2 + b.1 < 0 then some b.2 else none
  | none => none
def tieM (M : Tab) (d : Df) (k : Nat) : Tab := match cell M d.1.toNat d.2.1.toNat with
  | some h => if d.2.2 < h.1 then bring M d.1.toNat d.2.1.toNat (d.2.2, [(k : Int)]) else M
  | none => bring M d.1.toNat d.2.1.toNat (d.2.2, [(k : Int)])
def tab0 (n : Nat) : Tab := (List.range (n + 1)).map fun u => (List.range (n + 1)).map fun v => if v = u then some (0, []) else none
theorem cell_at {M : Tab} {n i j : Nat} (h : Sq2 M n) (hi : i ≤ n) (hj : j ≤ n) : ∃ row, M[i]? = some row ∧ row[j]? = some (cell M i j) := by
  have h1 : i < M.length := by rw [h.1]; omega
  have h2 := h.2 _ (List.getElem_mem h1)
  refine ⟨M[i], List.getElem?_eq_getElem h1, ?_⟩
  unfold cell
  rw [List.getD_eq_getElem?_getD (l := M), List.getElem?_eq_getElem h1]
  show M[i][j]? = some (M[i].getD j none)
  rw [List.getD_eq_getElem?_getD, List.getElem?_eq_getElem (by omega)]
  rfl
theorem row_of {M : Tab} {n i : Nat} (h : Sq2 M n) (hi : i ≤ n) : M[i]? = some (M.getD i []) := by
  have h1 : i < M.length := by rw [h.1]; omega
  rw [List.getD_eq_getElem?_getD, List.getElem?_eq_getElem h1]
  rfl
theorem tab0_sq (n : Nat) : Sq2 (tab0 n) n := by
  refine ⟨by simp [tab0], fun row hr => ?_⟩
  obtain ⟨u, _, rfl⟩ := List.mem_map.mp hr
  simp
theorem tab0_cell {n i j : Nat} (hi : i ≤ n) (hj : j ≤ n) : cell (tab0 n) i j = if j = i then some (0, []) else none := by
  unfold cell tab0
  rw [List.getD_eq_getElem?_getD (l := List.map _ _) (i := i), List.getElem?_map, List.getElem?_range (by omega)]
  show ((List.range (n + 1)).map _).getD j none = _
  rw [List.getD_eq_getElem?_getD, List.getElem?_map, List.getElem?_range (by omega)]
  rfl
theorem rowStep_len {known behind : List Cell} {before : Cell} {step : Int × List Int} (h : known.length = behind.length) : (rowStep known before step behind).length = known.length := by
  unfold rowStep
  cases before with
  | none => rfl
  | some b => simp; omega
theorem bring_sq {M : Tab} {n u v : Nat} {step : Int × List Int} (h : Sq2 M n) (hv : v ≤ n) : Sq2 (bring M u v step) n := by
  refine ⟨by unfold bring; rw [List.length_map]; exact h.1, fun row hr => ?_⟩
  obtain ⟨known, hk, rfl⟩ := List.mem_map.mp hr
  have h1 := h.2 _ hk
  have h2 := h.2 _ (List.mem_of_getElem? (row_of h hv))
  rw [rowStep_len (by omega)]
  exact h1
theorem bring_cell {M : Tab} {n u v i j : Nat} {step : Int × List Int} (h : Sq2 M n) (hu : u ≤ n) (hv : v ≤ n) (hi : i ≤ n) (hj : j ≤ n) :
    cell (bring M u v step) i j = match cell M i u with | none => cell M i j | some b => shorter (cell M i j) (joinC b step) (cell M v j) := by
  obtain ⟨row, g1, g2⟩ := cell_at h hi hj
  obtain ⟨_, g3, g4⟩ := cell_at h hi hu
  obtain ⟨rv, g5, g6⟩ := cell_at h hv hj
  rw [g1] at g3
  cases g3
  have gu : row.getD u none = cell M i u := by rw [List.getD_eq_getElem?_getD, g4]; rfl
  have ge : (bring M u v step)[i]? = some (rowStep row (cell M i u) step rv) := by
    unfold bring
    rw [List.getElem?_map, g1, List.getD_eq_getElem?_getD (l := M), g5]
    show some (rowStep row (row.getD u none) step rv) = _
    rw [gu]
  unfold cell
  rw [List.getD_eq_getElem?_getD (l := bring M u v step), ge]
  show (rowStep row (cell M i u) step rv).getD j none = _
  show _ = match cell M i u with | none => cell M i j | some b => shorter (cell M i j) (joinC b step) (cell M v j)
  unfold rowStep
  cases cell M i u with
  | none =>
    show row.getD j none = _
    rw [List.getD_eq_getElem?_getD, g2]
    rfl
  | some b =>
    show ((row.zip rv).map _).getD j none = _
    rw [List.getD_eq_getElem?_getD, List.getElem?_map, show (row.zip rv)[j]? = some (cell M i j, cell M v j) from List.getElem?_zip_eq_some.mpr ⟨g2, g6⟩]
    rfl
/-! ### bounds alone -/
def relax (b x : Option Int) (c : Int) (y : Option Int) : Option Int := match x, y with
  | some x, some y => (match b with
    | some o => if o ≤ x + c + y then some o else some (x + c + y)
    | none => some (x + c + y))
  | _, _ => b
abbrev bd (M : Tab) (i j : Nat) : Option Int := (cell M i j).map (·.1)
theorem bring_bd {M : Tab} {n u v i j : Nat} {step : Int × List Int} (h : Sq2 M n) (hu : u ≤ n) (hv : v ≤ n) (hi : i ≤ n) (hj : j ≤ n) : bd (bring M u v step) i j = relax (bd M i j) (bd M i u) step.1 (bd M v j) := by
  unfold bd
  rw [bring_cell h hu hv hi hj]
  cases cell M i u with
  | none => rfl
  | some b =>
    cases cell M v j with
    | none => cases cell M i j <;> rfl
    | some r =>
      cases cell M i j with
      | none => rfl
      | some o =>
        show (shorter (some o) (joinC b step) (some r)).map _ = (if o.1 ≤ b.1 + step.1 + r.1 then _ else _)
        show (shorter (some o) (joinC b step) (some r)).map _ = (if o.1 ≤ (joinC b step).1 + r.1 then some o.1 else some ((joinC b step).1 + r.1))
        rw [shorter_some]
        by_cases q : o.1 ≤ (joinC b step).1 + r.1
        · rw [if_pos q, if_pos q]
          rfl
        · rw [if_neg q, if_neg q]
          rfl
/-- closed: the ground of all bounds -/
structure Cl (n : Nat) (B : Nat → Nat → Option Int) : Prop where
  diag : ∀ i, i ≤ n → B i i = some 0
  tri : ∀ i k j x y, i ≤ n → k ≤ n → j ≤ n → B i k = some x → B k j = some y → ∃ z, B i j = some z ∧ z ≤ x + y
theorem relax_le {b x y : Option Int} {c z : Int} (h : relax b x c y = some z) : b = some z ∨ ∃ p q, x = some p ∧ y = some q ∧ z = p + c + q := by
  unfold relax at h
  cases x with
  | none => exact .inl h
  | some p =>
    cases y with
    | none => exact .inl h
    | some q =>
      cases b with
      | none => exact .inr ⟨p, q, rfl, rfl, (Option.some.inj h).symm⟩
      | some o =>
        have h : (if o ≤ p + c + q then some o else some (p + c + q)) = some z := h
        split at h
        · exact .inl h
        · exact .inr ⟨p, q, rfl, rfl, (Option.some.inj h).symm⟩
theorem relax_old {x y : Option Int} {c o : Int} : ∃ z, relax (some o) x c y = some z ∧ z ≤ o := by
  unfold relax
  cases x with
  | none => exact ⟨o, rfl, Int.le_refl _⟩
  | some p =>
    cases y with
    | none => exact ⟨o, rfl, Int.le_refl _⟩
    | some q =>
      show ∃ z, (if o ≤ p + c + q then some o else some (p + c + q)) = some z ∧ z ≤ o
      split
      · exact ⟨o, rfl, Int.le_refl _⟩
      · exact ⟨_, rfl, by omega⟩
theorem relax_new {b : Option Int} {c p q : Int} : ∃ z, relax b (some p) c (some q) = some z ∧ z ≤ p + c + q := by
  unfold relax
  cases b with
  | none => exact ⟨_, rfl, Int.le_refl _⟩
  | some o =>
    show ∃ z, (if o ≤ p + c + q then some o else some (p + c + q)) = some z ∧ z ≤ p + c + q
    split
    · exact ⟨o, rfl, by assumption⟩
    · exact ⟨_, rfl, Int.le_refl _⟩
/-- a path by old bounds, made shorter -/
theorem Cl.relax {n u v : Nat} {c : Int} {B : Nat → Nat → Option Int} (h : Cl n B) (hu : u ≤ n) (hv : v ≤ n) (hc : ∀ b, B v u = some b → 0 ≤ c + b) : Cl n fun i j => WT.relax (B i j) (B i u) c (B v j) := by
  refine ⟨fun i hi => ?_, fun i k j x y hi hk hj hx hy => ?_⟩
  · obtain ⟨z, e, le⟩ := relax_old (x := B i u) (y := B v i) (c := c) (o := 0)
    show WT.relax (B i i) _ _ _ = _
    rw [h.diag i hi]
    rcases relax_le e with e2 | ⟨p, q, e2, e3, e4⟩
    · rw [e]
      exact e2.symm
    · obtain ⟨b, e5, le2⟩ := h.tri v i u q p hv hi hu e3 e2
      have := hc b e5
      rw [e]
      exact congrArg some (by omega)
  · show ∃ z, WT.relax (B i j) (B i u) c (B v j) = some z ∧ _
    rcases relax_le hx with e1 | ⟨p, q, e1, e2, e3⟩ <;> rcases relax_le hy with f1 | ⟨p', q', f1, f2, f3⟩
    · obtain ⟨z, g1, g2⟩ := h.tri i k j x y hi hk hj e1 f1
      rw [g1]
      obtain ⟨z', g3, g4⟩ := relax_old (x := B i u) (y := B v j) (c := c) (o := z)
      exact ⟨z', g3, by omega⟩
    · obtain ⟨a, g1, g2⟩ := h.tri i k u x p' hi hk hu e1 f1
      rw [g1, f2]
      obtain ⟨z', g3, g4⟩ := relax_new (b := B i j) (c := c) (p := a) (q := q')
      exact ⟨z', g3, by omega⟩
    · obtain ⟨a, g1, g2⟩ := h.tri v k j q y hv hk hj e2 f1
      rw [g1, e1]
      obtain ⟨z', g3, g4⟩ := relax_new (b := B i j) (c := c) (p := p) (q := a)
      exact ⟨z', g3, by omega⟩
    · obtain ⟨b, g1, g2⟩ := h.tri v k u q p' hv hk hu e2 f1
      have := hc b g1
      rw [e1, f2]
      obtain ⟨z', g3, g4⟩ := relax_new (b := B i j) (c := c) (p := p) (q := q')
      exact ⟨z', g3, by omega⟩
/-- what is not shorter brings nothing -/
theorem Cl.idle {n u v i j : Nat} {c g : Int} {B : Nat → Nat → Option Int} (h : Cl n B) (hu : u ≤ n) (hv : v ≤ n) (hi : i ≤ n) (hj : j ≤ n) (hg : B u v = some g) (hc : g ≤ c) : WT.relax (B i j) (B i u) c (B v j) = B i j := by
  unfold WT.relax
  cases e1 : B i u with
  | none => rfl
  | some p =>
    cases e2 : B v j with
    | none => rfl
    | some q =>
      obtain ⟨a, f1, f2⟩ := h.tri i u v p g hi hu hv e1 hg
      obtain ⟨z, f3, f4⟩ := h.tri i v j a q hi hv hj f1 e2
      rw [f3]
      show (if z ≤ p + c + q then some z else _) = _
      rw [if_pos (by omega)]
theorem tie_bd {M : Tab} {n i j k : Nat} {d : Df} (h : Sq2 M n) (hc : Cl n (bd M)) (hd : InR n d) (hi : i ≤ n) (hj : j ≤ n) : bd (tieM M d k) i j = relax (bd M i j) (bd M i d.1.toNat) d.2.2 (bd M d.2.1.toNat j) := by
  obtain ⟨h0, h1, h2, h3⟩ := hd
  have hu : d.1.toNat ≤ n := by omega
  have hv : d.2.1.toNat ≤ n := by omega
  unfold tieM
  cases e : cell M d.1.toNat d.2.1.toNat with
  | none => exact bring_bd h hu hv hi hj
  | some g =>
    show bd (if d.2.2 < g.1 then _ else M) i j = _
    split
    · exact bring_bd h hu hv hi hj
    · exact (hc.idle hu hv hi hj (g := g.1) (by show (cell M _ _).map _ = _; rw [e]; rfl) (by omega)).symm
theorem tie_sq {M : Tab} {n k : Nat} {d : Df} (h : Sq2 M n) (hd : InR n d) : Sq2 (tieM M d k) n := by
  obtain ⟨h0, h1, h2, h3⟩ := hd
  unfold tieM
  cases e : cell M d.1.toNat d.2.1.toNat with
  | none => exact bring_sq h (by omega)
  | some g =>
    show Sq2 (if d.2.2 < g.1 then _ else M) n
    split
    · exact bring_sq h (by omega)
    · exact h
theorem ring_none {M : Tab} {d : Df} (h : ringOf M d = none) : ∀ b, bd M d.2.1.toNat d.1.toNat = some b → 0 ≤ d.2.2 + b := by
  intro b hb
  unfold bd at hb
  unfold ringOf at h
  cases e : cell M d.2.1.toNat d.1.toNat with
  | none =>
    rw [e] at hb
    cases hb
  | some g =>
    rw [e] at hb h
    have hb : g.1 = b := Option.some.inj hb
    have h : (if d.2.2 + g.1 < 0 then some g.2 else none) = none := h
    split at h
    · cases h
    · omega
/-- lengths -/
def Short (M : Tab) (L : Nat) : Prop := ∀ row ∈ M, ∀ c, some c ∈ row → c.2.length ≤ L
theorem shorter_len {L : Nat} {old rest : Cell} {th : Int × List Int} {c : Int × List Int} (h1 : ∀ c, old = some c → c.2.length ≤ L) (h2 : ∀ r, rest = some r → th.2.length + r.2.length ≤ L) (h : shorter old th rest = some c) : c.2.length ≤ L := by
  unfold shorter at h
  cases rest with
  | none => exact h1 c h
  | some r =>
    have := h2 r rfl
    cases old with
    | none =>
      cases h
      simp only [joinC, List.length_append]
      omega
    | some o =>
      have h : (if o.1 ≤ th.1 + r.1 then some o else some (joinC th r)) = some c := h
      split at h
      · exact h1 c h
      · cases h
        simp only [joinC, List.length_append]
        omega
theorem bring_short {M : Tab} {u v : Nat} {c k : Int} {L : Nat} (h : Short M L) : Short (bring M u v (c, [k])) (2 * L + 1) := by
  intro row hr x hx
  obtain ⟨known, hk, rfl⟩ := List.mem_map.mp hr
  unfold rowStep at hx
  cases e : known.getD u none with
  | none =>
    rw [e] at hx
    have := h known hk x hx
    omega
  | some b =>
    rw [e] at hx
    have hb : b.2.length ≤ L := h known hk b (by
      rw [List.getD_eq_getElem?_getD] at e
      cases e2 : known[u]? with
      | none =>
        rw [e2] at e
        cases e
      | some y =>
        rw [e2] at e
        have e : y = some b := e
        rw [← e]
        exact List.mem_of_getElem? e2)
    obtain ⟨⟨o, r⟩, hp, e2⟩ := List.mem_map.mp hx
    have ho := (List.of_mem_zip hp).1
    have hr := (List.of_mem_zip hp).2
    refine shorter_len (fun c hc => ?_) (fun c hc => ?_) e2
    · have := h known hk c (hc ▸ ho)
      omega
    · have hm : M.getD v [] ∈ M := by
        rw [List.getD_eq_getElem?_getD] at hr ⊢
        cases e3 : M[v]? with
        | none =>
          rw [e3] at hr
          cases hr
        | some y => exact List.mem_of_getElem? e3
      have := h _ hm c (hc ▸ hr)
      simp only [joinC, List.length_append, List.length_singleton]
      omega
theorem tie_short {M : Tab} {d : Df} {k L : Nat} (h : Short M L) : Short (tieM M d k) (2 * L + 1) := by
  have h' : Short M (2 * L + 1) := fun r hr c hc => by have := h r hr c hc; omega
  unfold tieM
  cases e : cell M d.1.toNat d.2.1.toNat with
  | none => exact bring_short h
  | some g =>
    show Short (if d.2.2 < g.1 then _ else M) _
    split
    · exact bring_short h
    · exact h'
/-! ### a System in the heap -/
structure Spot where
  dx : Addr
  dl : Addr
  tp : Addr
  rs : List Addr
def RowAt (H : Hp) (r : Addr) (row : List Cell) : Prop := ∃ cs, H r = some (.lst cs) ∧ TpAll H cs (row.map cellD)
abbrev sysFs (S : Spot) (n : Nat) : List (Str × V) := [("many", .int n), ("differences", .ref S.dl), ("_table", .ref S.tp)]
structure SysAt (K : PySem.W.Frag) (H : Hp) (x : Addr) (S : Spot) (n : Nat) (ds : List Df) (M : Tab) : Prop where
  ins : H x = some (.ins (He.ga K "System") S.dx (sysFs S n))
  diffs : ∃ us, H S.dl = some (.lst us) ∧ TpAll H us (ds.map dfD)
  tab : H S.tp = some (.lst (S.rs.map V.ref))
  len : S.rs.length = M.length
  rows : ∀ (i : Nat) (r : Addr) (row : List Cell), S.rs[i]? = some r → M[i]? = some row → RowAt H r row
  ap1 : S.dl ∉ S.rs
  ap2 : S.dl ≠ S.tp
  sq : Sq2 M n
/-- what stands, but for some places -/
def KeepBut (A : List Addr) (H H' : Hp) : Prop := ∀ b o, b ∉ A → H b = some o → H' b = some o
theorem KeepBut.refl {A : List Addr} {H : Hp} : KeepBut A H H := fun _ _ _ e => e
theorem KeepBut.trans {A : List Addr} {H H1 H2 : Hp} (h : KeepBut A H H1) (k : KeepBut A H1 H2) : KeepBut A H H2 := fun b o n e => k b o n (h b o n e)
theorem Same.but {A : List Addr} {H H1 : Hp} (s : Same H H1) : KeepBut A H H1 := fun b o _ e => s b o e
theorem Chg.but {A : List Addr} {p : Addr} {H H1 : Hp} (c : Chg p H H1) (h : p ∈ A) : KeepBut A H H1 := fun b o n e => c.at e (fun q => n (q ▸ h))
theorem KeepBut.mono {A B : List Addr} {H H1 : Hp} (h : KeepBut A H H1) (s : ∀ a ∈ A, a ∈ B) : KeepBut B H H1 := fun b o n e => h b o (fun q => n (s b q)) e
/-- not a tuple -/
def noTup : HO → Bool
  | .tup _ => false
  | _ => true
theorem KeepBut.tk {A : List Addr} {H H1 : Hp} (h : KeepBut A H H1) (ht : ∀ a ∈ A, ∃ o, H a = some o ∧ noTup o = true) : TK H H1 := fun a xs e => h a _ (fun q => by
  obtain ⟨o, e2, n⟩ := ht a q
  rw [e] at e2
  cases e2
  cases n) e
theorem SysAt.keep {K : PySem.W.Frag} {H H' : Hp} {x : Addr} {S : Spot} {n : Nat} {ds : List Df} {M : Tab} (s : SysAt K H x S n ds M) {A : List Addr} (k : KeepBut A H H') (tk : TK H H') (h1 : x ∉ A) (h2 : S.dl ∉ A) (h3 : S.tp ∉ A) (h4 : ∀ r ∈ S.rs, r ∉ A) : SysAt K H' x S n ds M := by
  obtain ⟨us, e1, t1⟩ := s.diffs
  refine ⟨k _ _ h1 s.ins, ⟨us, k _ _ h2 e1, t1.tk tk⟩, k _ _ h3 s.tab, s.len, fun i r row hr hm => ?_, s.ap1, s.ap2, s.sq⟩
  obtain ⟨cs, e2, t2⟩ := s.rows i r row hr hm
  exact ⟨cs, k _ _ (h4 r (List.mem_of_getElem? hr)) e2, t2.tk tk⟩
theorem SysAt.same {K : PySem.W.Frag} {H H' : Hp} {x : Addr} {S : Spot} {n : Nat} {ds : List Df} {M : Tab} (s : SysAt K H x S n ds M) (k : Same H H') : SysAt K H' x S n ds M :=
  s.keep (A := []) (Same.but k) k.tk (by simp) (by simp) (by simp) (by simp)
theorem SysAt.get {K : PySem.W.Frag} {H : Hp} {x : Addr} {S : Spot} {n : Nat} {ds : List Df} {M : Tab} (s : SysAt K H x S n ds M) {u : Nat} (hu : u ≤ n) : ∃ r cs, S.rs[u]? = some r ∧ H r = some (.lst cs) ∧ TpAll H cs ((M.getD u []).map cellD) ∧ cs.length = n + 1 := by
  have hm := row_of s.sq hu
  have hl := s.sq.2 _ (List.mem_of_getElem? hm)
  have h1 : u < S.rs.length := by rw [s.len, s.sq.1]; omega
  obtain ⟨cs, e, t⟩ := s.rows u S.rs[u] _ (List.getElem?_eq_getElem h1) hm
  refine ⟨_, cs, List.getElem?_eq_getElem h1, e, t, ?_⟩
  rw [t.length, List.length_map]
  exact hl
theorem row_cell {H : Hp} {M : Tab} {n u v : Nat} {cs : List V} (hq : Sq2 M n) (hu : u ≤ n) (hv : v ≤ n) (t : TpAll H cs ((M.getD u []).map cellD)) : ∃ y, cs[v]? = some y ∧ Tp H y (cellD (cell M u v)) := by
  obtain ⟨row, g1, g2⟩ := cell_at hq hu hv
  have : M.getD u [] = row := by rw [List.getD_eq_getElem?_getD, g1]; rfl
  rw [this] at t
  exact tpAt t g2
theorem cellN {H : Hp} {y : V} {c : Cell} (t : Tp H y (cellD c)) (e : c = none) : y = .non := by
  subst e
  cases t
  rfl
theorem cellS {H : Hp} {y : V} {c : Cell} {p : Int × List Int} (t : Tp H y (cellD c)) (e : c = some p) : ∃ a b, y = .ref a ∧ H a = some (.tup [.int p.1, .ref b]) ∧ H b = some (.tup (p.2.map V.int)) := by
  subst e
  obtain ⟨a, v1, v2, rfl, e, t1, t2⟩ := WQ.tp2 (show Tp H y (.tuple [.int p.1, iT p.2]) from t)
  cases t1
  obtain ⟨b, rfl, e2⟩ := tpI t2
  exact ⟨a, b, rfl, e, e2⟩
theorem cellT {H : Hp} {a b : Addr} {p : Int × List Int} (e : H a = some (.tup [.int p.1, .ref b])) (e2 : H b = some (.tup (p.2.map V.int))) : Tp H (.ref a) (cellD (some p)) := .tup e (.cons (.int _) (.cons (iT_tp e2) .nil))
theorem refs_of {ys : List V} (h : ∀ (j : Nat) (y : V), ys[j]? = some y → ∃ r, y = .ref r) : ∃ rs : List Addr, ys = rs.map V.ref := by
  have : ∀ ys : List V, (∀ y ∈ ys, ∃ r, y = .ref r) → ∃ rs : List Addr, ys = rs.map V.ref := by
    intro ys
    induction ys with
    | nil => exact fun _ => ⟨[], rfl⟩
    | cons y r ih =>
      intro h
      obtain ⟨i, rfl⟩ := h y List.mem_cons_self
      obtain ⟨xs, rfl⟩ := ih fun z hz => h z (List.mem_cons_of_mem _ hz)
      exact ⟨i :: xs, rfl⟩
  refine this ys fun y hy => ?_
  obtain ⟨j, hj, e⟩ := List.getElem_of_mem hy
  exact h j y (by rw [List.getElem?_eq_getElem hj, e])
/-! ### promises -/
section
variable {K : PySem.W.Frag}
def spSysInit (K : PySem.W.Frag) : Sp := fun vs H Q _ => ∃ (x dx : Addr) (n : Nat), vs = [.ref x, .int n] ∧ H x = some (.ins (He.ga K "System") dx []) ∧ n ≤ 1000 ∧
  ∀ H' S, KeepBut [x] H H' → SysAt K H' x S n [] (tab0 n) → S.dx = dx → H S.dl = none → H S.tp = none → (∀ r ∈ S.rs, H r = none) → Q .non H'
def spBound (K : PySem.W.Frag) : Sp := fun vs H Q _ => ∃ (x : Addr) (S : Spot) (n : Nat) (ds : List Df) (M : Tab) (u v : Int), vs = [.ref x, .int u, .int v] ∧ SysAt K H x S n ds M ∧ 0 ≤ u ∧ u ≤ n ∧ 0 ≤ v ∧ v ≤ n ∧ Q (oI (bd M u.toNat v.toNat)) H
def spTie (K : PySem.W.Frag) : Sp := fun vs H Q _ => ∃ (x : Addr) (d : V) (S : Spot) (n : Nat) (ds : List Df) (M : Tab) (df : Df) (L : Nat), vs = [.ref x, d] ∧ SysAt K H x S n ds M ∧ Tp H d (dfD df) ∧ InR n df ∧ ds.length ≤ 1000 ∧ n ≤ 1000 ∧ Short M L ∧ 2 * L + 1 ≤ 5000000 ∧
  (∀ bs, ringOf M df = some bs → ∀ p H', KeepBut [S.dl] H H' → H p = none → H' p = some (.tup (((ds.length : Int) :: bs).map V.int)) → Q (.ref p) H') ∧
  (ringOf M df = none → ∀ H' S', KeepBut [x, S.dl] H H' → SysAt K H' x S' n (ds ++ [df]) (tieM M df ds.length) → S'.dx = S.dx → S'.dl = S.dl → (S'.tp = S.tp ∨ H S'.tp = none) → (∀ r ∈ S'.rs, r ∈ S.rs ∨ H r = none) → Q .non H')
def spBring (K : PySem.W.Frag) : Sp := fun vs H Q _ => ∃ (x st : Addr) (S : Spot) (n : Nat) (ds : List Df) (M : Tab) (u v : Int) (p : Int × List Int) (L : Nat), vs = [.ref x, .int u, .int v, .ref st] ∧ SysAt K H x S n ds M ∧ Tp H (.ref st) (cellD (some p)) ∧ 0 ≤ u ∧ u ≤ n ∧ 0 ≤ v ∧ v ≤ n ∧ n ≤ 1000 ∧ Short M L ∧ 2 * L + p.2.length ≤ 5000000 ∧
  ∀ H' S', KeepBut [x] H H' → SysAt K H' x S' n ds (bring M u.toNat v.toNat p) → S'.dx = S.dx → S'.dl = S.dl → H S'.tp = none → (∀ r ∈ S'.rs, r ∈ S.rs ∨ H r = none) → Q .non H'
def spRowS (K : PySem.W.Frag) : Sp := fun vs H Q _ => ∃ (r bh : Addr) (bf st : V) (cs ks : List V) (row behind : List Cell) (before : Cell) (p : Int × List Int) (L : Nat), vs = [.ref r, bf, st, .ref bh] ∧ H r = some (.lst cs) ∧ TpAll H cs (row.map cellD) ∧ Tp H bf (cellD before) ∧ Tp H st (cellD (some p)) ∧
  H bh = some (.lst ks) ∧ TpAll H ks (behind.map cellD) ∧ row.length = behind.length ∧ row.length ≤ 2000 ∧ (∀ c, before = some c → c.2.length ≤ L) ∧ (∀ c, some c ∈ behind → c.2.length ≤ L) ∧ 2 * L + p.2.length ≤ 5000000 ∧
  ∀ q H' cs', Same H H' → H' q = some (.lst cs') → TpAll H' cs' ((rowStep row before p behind).map cellD) → (q = r ∨ H q = none) → Q (.ref q) H'
def spJoin (K : PySem.W.Frag) : Sp := fun vs H Q _ => ∃ (x y : V) (a b : Int × List Int), vs = [x, y] ∧ Tp H x (cellD (some a)) ∧ Tp H y (cellD (some b)) ∧ a.2.length + b.2.length ≤ 6000000 ∧ ∀ p H', Same H H' → Tp H' p (cellD (some (joinC a b))) → Q p H'
def spShorter (K : PySem.W.Frag) : Sp := fun vs H Q _ => ∃ (x y z : V) (old rest : Cell) (a : Int × List Int), vs = [x, y, z] ∧ Tp H x (cellD old) ∧ Tp H y (cellD (some a)) ∧ Tp H z (cellD rest) ∧ (∀ c, rest = some c → a.2.length + c.2.length ≤ 6000000) ∧ ∀ p H', Same H H' → Tp H' p (cellD (shorter old a rest)) → Q p H'
def spRaised (K : PySem.W.Frag) : Sp := fun vs H Q _ => ∃ (a b e : Addr) (zs : List Int) (us : List V) (ds : List Df) (vals : List Int), vs = [.ref a, .ref b, .ref e] ∧ SqL K H a (zs.map V.int) ∧ H b = some (.lst us) ∧ TpAll H us (ds.map dfD) ∧ H e = some (.lst (vals.map V.int)) ∧ (∀ d ∈ ds, InR vals.length d) ∧ ds.length ≤ 900 ∧ vals.length ≤ 900 ∧
  ∀ p H' us' ds', Same H H' → H p = none → H' p = some (.lst us') → TpAll H' us' ((ds' : List Df).map dfD) → ds'.length = ds.length → (∀ d ∈ ds', InR vals.length d) → Q (.ref p) H'
/-! ### matrices of bounds -/
structure MatAt (H : Hp) (p : Addr) (rs : List Addr) (n : Nat) (B : Nat → Nat → Option Int) : Prop where
  tab : H p = some (.lst (rs.map V.ref))
  len : rs.length = n + 1
  rows : ∀ (i : Nat) (r : Addr), rs[i]? = some r → H r = some (.lst ((List.range (n + 1)).map fun j => oI (B i j)))
theorem MatAt.same {H H' : Hp} {p : Addr} {rs : List Addr} {n : Nat} {B : Nat → Nat → Option Int} (m : MatAt H p rs n B) (s : Same H H') : MatAt H' p rs n B := ⟨s _ _ m.tab, m.len, fun i r g => s _ _ (m.rows i r g)⟩
theorem MatAt.keep {H H' : Hp} {p : Addr} {rs : List Addr} {n : Nat} {B : Nat → Nat → Option Int} (m : MatAt H p rs n B) {A : List Addr} (k : KeepBut A H H') (h1 : p ∉ A) (h2 : ∀ r ∈ rs, r ∉ A) : MatAt H' p rs n B := ⟨k _ _ h1 m.tab, m.len, fun i r g => k _ _ (h2 r (List.mem_of_getElem? g)) (m.rows i r g)⟩
theorem MatAt.cong {H : Hp} {p : Addr} {rs : List Addr} {n : Nat} {B B' : Nat → Nat → Option Int} (m : MatAt H p rs n B) (h : ∀ i j, i ≤ n → j ≤ n → B i j = B' i j) : MatAt H p rs n B' := ⟨m.tab, m.len, fun i r g => by
  have hi := (List.getElem?_eq_some_iff.mp g).1
  have hl := m.len
  rw [m.rows i r g]
  refine congrArg (fun z => some (HO.lst z)) (List.map_congr_left fun j hj => ?_)
  rw [h i j (by omega) (by have := List.mem_range.mp hj; omega)]⟩
theorem ix_mat {K : PySem.W.Frag} {H : Hp} {Q : VK} {p : Addr} {rs : List Addr} {n : Nat} {B : Nat → Nat → Option Int} (m : MatAt H p rs n B) {i : Int} (h0 : 0 ≤ i) (h1 : i ≤ n) (h : ∀ r, rs[i.toNat]? = some r → H r = some (.lst ((List.range (n + 1)).map fun j => oI (B i.toNat j))) → Q (.ref r) H) : rIx K (.ref p) (.int i) H Q := by
  have hl := m.len
  have g := List.getElem?_eq_getElem (l := rs) (i := i.toNat) (by omega)
  exact o_ixL (lst_of m.tab) (atI_of (j := i.toNat) (by omega) (v := .ref rs[i.toNat]) (by rw [List.getElem?_map, g]; rfl)) (h _ g (m.rows _ _ g))
theorem ix_row {K : PySem.W.Frag} {H : Hp} {Q : VK} {r : Addr} {n : Nat} {F : Nat → Option Int} (e : H r = some (.lst ((List.range (n + 1)).map fun j => oI (F j)))) {i : Int} (h0 : 0 ≤ i) (h1 : i ≤ n) (h : Q (oI (F i.toNat)) H) : rIx K (.ref r) (.int i) H Q :=
  o_ixL (lst_of e) (atI_of (j := i.toNat) (by omega) (by rw [List.getElem?_map, List.getElem?_range (by omega)]; rfl)) h
theorem mat_of {H : Hp} {p : Addr} {rs : List Addr} {n : Nat} {B : Nat → Nat → Option Int} (e : H p = some (.lst (rs.map V.ref))) (l : rs.length = n + 1) (h : ∀ (i : Nat) (r : Addr), rs[i]? = some r → H r = some (.lst ((List.range (n + 1)).map fun j => oI (B i j)))) : MatAt H p rs n B := ⟨e, l, h⟩
theorem tab0_bd {n i j : Nat} (hi : i ≤ n) (hj : j ≤ n) : bd (tab0 n) i j = if i = j then some 0 else none := by
  unfold bd
  rw [tab0_cell hi hj]
  by_cases h : i = j
  · rw [if_pos h, if_pos h.symm]
    rfl
  · rw [if_neg h, if_neg (fun e => h e.symm)]
    rfl
theorem tab0_cl (n : Nat) : Cl n (bd (tab0 n)) := ⟨fun i hi => by rw [tab0_bd hi hi, if_pos rfl], fun i k j x y hi hk hj hx hy => by
  rw [tab0_bd hi hk] at hx
  rw [tab0_bd hk hj] at hy
  split at hx
  · split at hy
    · cases hx
      cases hy
      refine ⟨0, ?_, by omega⟩
      rw [tab0_bd hi hj, if_pos (by omega)]
    · cases hy
  · cases hx⟩
theorem tab0_short (n : Nat) : Short (tab0 n) 0 := fun row hr c hc => by
  obtain ⟨u, _, rfl⟩ := List.mem_map.mp hr
  obtain ⟨v, _, e⟩ := List.mem_map.mp hc
  split at e
  · cases e
    exact Nat.le_refl _
  · cases e
theorem tie_cl {M : Tab} {n k : Nat} {d : Df} (h : Sq2 M n) (hc : Cl n (bd M)) (hd : InR n d) (hr : ringOf M d = none) : Cl n (bd (tieM M d k)) := by
  have := hc.relax (u := d.1.toNat) (v := d.2.1.toNat) (c := d.2.2) (by have := hd.2.1; omega) (by have := hd.2.2.2; omega) (ring_none hr)
  exact ⟨fun i hi => by rw [tie_bd h hc hd hi hi]; exact this.diag i hi, fun i k j x y hi hk hj hx hy => by
    rw [tie_bd h hc hd hi hk] at hx
    rw [tie_bd h hc hd hk hj] at hy
    rw [tie_bd h hc hd hi hj]
    exact this.tri i k j x y hi hk hj hx hy⟩
def spJoinM : Sp := fun vs H Q _ => ∃ (a : Addr) (d : V) (rs : List Addr) (n : Nat) (B : Nat → Nat → Option Int) (df : Df), vs = [.ref a, d] ∧ MatAt H a rs n B ∧ Tp H d (dfD df) ∧ InR n df ∧ n ≤ 1000 ∧
  ∀ p H' rs', Same H H' → H p = none → (∀ r ∈ rs', H r = none) → MatAt H' p rs' n (fun i j => relax (B i j) (B i df.1.toNat) df.2.2 (B df.2.1.toNat j)) → Q (.ref p) H'
end
end WT
namespace K16
open PySem PySem.Spec PyProof.Rows L2 Wy
/-! ### the text -/
def top (i : Nat) : Stmt := PySem.Challenge.pw_wayorring_k16_bounds_are_closed.main.body.getD i (.Pass ⟨0, 0, 0, 0⟩)
def mth (i j : Nat) : Stmt := (C8.clsBody (top i)).getD j (.Pass ⟨0, 0, 0, 0⟩)
abbrev s_wall : Stmt := top 0
abbrev n_wall : List Str := ["k"]
theorem sc_wall : FnScope n_wall ["k"] (defScope s_wall) := C8.fnScope_by (by decide +kernel)
abbrev s_System___init : Stmt := mth 2 0
abbrev n_System___init : List Str := ["self", "many", "u", "v"]
theorem sc_System___init : FnScope n_System___init ["self", "many"] (defScope s_System___init) := C8.fnScope_by (by decide +kernel)
abbrev s_System_tie : Stmt := mth 2 1
abbrev n_System_tie : List Str := ["self", "difference", "u", "v", "c", "number", "back", "here"]
theorem sc_System_tie : FnScope n_System_tie ["self", "difference"] (defScope s_System_tie) := C8.fnScope_by (by decide +kernel)
abbrev s_System_bound : Stmt := mth 2 2
abbrev n_System_bound : List Str := ["self", "u", "v", "known"]
theorem sc_System_bound : FnScope n_System_bound ["self", "u", "v"] (defScope s_System_bound) := C8.fnScope_by (by decide +kernel)
abbrev s_System_floors : Stmt := mth 2 3
abbrev n_System_floors : List Str := ["self"]
theorem sc_System_floors : FnScope n_System_floors ["self"] (defScope s_System_floors) := C8.fnScope_by (by decide +kernel)
abbrev s_System_least_values : Stmt := mth 2 4
abbrev n_System_least_values : List Str := ["self"]
theorem sc_System_least_values : FnScope n_System_least_values ["self"] (defScope s_System_least_values) := C8.fnScope_by (by decide +kernel)
abbrev s_System_twin : Stmt := mth 2 5
abbrev n_System_twin : List Str := ["self"]
theorem sc_System_twin : FnScope n_System_twin ["self"] (defScope s_System_twin) := C8.fnScope_by (by decide +kernel)
abbrev s_System__bring_in : Stmt := mth 2 6
abbrev n_System__bring_in : List Str := ["self", "u", "v", "step", "behind", "known"]
theorem sc_System__bring_in : FnScope n_System__bring_in ["self", "u", "v", "step"] (defScope s_System__bring_in) := C8.fnScope_by (by decide +kernel)
abbrev s_row_with_step : Stmt := top 3
abbrev n_row_with_step : List Str := ["known", "before", "step", "behind", "through", "old", "rest"]
theorem sc_row_with_step : FnScope n_row_with_step ["known", "before", "step", "behind"] (defScope s_row_with_step) := C8.fnScope_by (by decide +kernel)
abbrev s_joined : Stmt := top 4
abbrev n_joined : List Str := ["first", "second"]
theorem sc_joined : FnScope n_joined ["first", "second"] (defScope s_joined) := C8.fnScope_by (by decide +kernel)
abbrev s_shorter : Stmt := top 5
abbrev n_shorter : List Str := ["old", "through", "rest"]
theorem sc_shorter : FnScope n_shorter ["old", "through", "rest"] (defScope s_shorter) := C8.fnScope_by (by decide +kernel)
abbrev s_law_cell : Stmt := top 7
abbrev n_law_cell : List Str := ["script", "k"]
theorem sc_law_cell : FnScope n_law_cell ["script", "k"] (defScope s_law_cell) := C8.fnScope_by (by decide +kernel)
abbrev s_law_draws : Stmt := top 8
abbrev n_law_draws : List Str := ["script", "place", "sizes", "primes", "cell", "rest", "draws", "k", "first", "mixed"]
theorem sc_law_draws : FnScope n_law_draws ["script", "place", "sizes"] (defScope s_law_draws) := C8.fnScope_by (by decide +kernel)
abbrev s_law_weight : Stmt := top 9
abbrev n_law_weight : List Str := ["draw", "kind", "rest"]
theorem sc_law_weight : FnScope n_law_weight ["draw"] (defScope s_law_weight) := C8.fnScope_by (by decide +kernel)
abbrev s_law_differences : Stmt := top 10
abbrev n_law_differences : List Str := ["script", "place", "count", "many", "differences", "k", "draws"]
theorem sc_law_differences : FnScope n_law_differences ["script", "place", "count", "many"] (defScope s_law_differences) := C8.fnScope_by (by decide +kernel)
abbrev s_law_is_integer : Stmt := top 11
abbrev n_law_is_integer : List Str := ["value"]
theorem sc_law_is_integer : FnScope n_law_is_integer ["value"] (defScope s_law_is_integer) := C8.fnScope_by (by decide +kernel)
abbrev s_law_kept : Stmt := top 12
abbrev n_law_kept : List Str := ["differences", "values", "level", "u", "v", "c"]
theorem sc_law_kept : FnScope n_law_kept ["differences", "values"] (defScope s_law_kept) := C8.fnScope_by (by decide +kernel)
abbrev s_law_raised : Stmt := top 13
abbrev n_law_raised : List Str := ["script", "differences", "values", "k", "draws", "level", "raised", "u", "v", "c"]
theorem sc_law_raised : FnScope n_law_raised ["script", "differences", "values"] (defScope s_law_raised) := C8.fnScope_by (by decide +kernel)
abbrev s_law_joined : Stmt := top 14
abbrev n_law_joined : List Str := ["least", "difference", "u", "v", "c", "joined", "first", "last", "whole", "row"]
theorem sc_law_joined : FnScope n_law_joined ["least", "difference"] (defScope s_law_joined) := C8.fnScope_by (by decide +kernel)
abbrev s_law_fits : Stmt := top 15
abbrev n_law_fits : List Str := ["system", "differences", "least", "many", "values", "level", "kept", "u", "v", "found"]
theorem sc_law_fits : FnScope n_law_fits ["system", "differences", "least", "many", "values"] (defScope s_law_fits) := C8.fnScope_by (by decide +kernel)
abbrev s_law : Stmt := top 16
abbrev n_law : List Str := ["script", "shape", "many", "differences", "k", "values", "system", "u", "v", "least", "taken", "c", "back", "ring", "other", "draw"]
theorem sc_law : FnScope n_law ["script"] (defScope s_law) := C8.fnScope_by (by decide +kernel)
/-! ### what the top has made -/
structure Tx (K : PySem.W.Frag) (mg : Str → Option Value) : Prop where
  d_wall : DefOk K mg "_wall" s_wall
  d_row_with_step : DefOk K mg "_row_with_step" s_row_with_step
  d_joined : DefOk K mg "_joined" s_joined
  d_shorter : DefOk K mg "_shorter" s_shorter
  d_law_cell : DefOk K mg "_law_cell" s_law_cell
  d_law_draws : DefOk K mg "_law_draws" s_law_draws
  d_law_weight : DefOk K mg "_law_weight" s_law_weight
  d_law_differences : DefOk K mg "_law_differences" s_law_differences
  d_law_is_integer : DefOk K mg "_law_is_integer" s_law_is_integer
  d_law_kept : DefOk K mg "_law_kept" s_law_kept
  d_law_raised : DefOk K mg "_law_raised" s_law_raised
  d_law_joined : DefOk K mg "_law_joined" s_law_joined
  d_law_fits : DefOk K mg "_law_fits" s_law_fits
  d_law : DefOk K mg "law" s_law
  c_System : Cls K (He.ga K "System")
  a_System_many : NoAttr K (He.ga K "System") "many"
  a_System_differences : NoAttr K (He.ga K "System") "differences"
  a_System__table : NoAttr K (He.ga K "System") "_table"
  d_System___init : WO.MakOk K mg "System" "System.__init__" s_System___init
  d_System_tie : WO.MetOk K "System" "tie" "System.tie" s_System_tie
  d_System_bound : WO.MetOk K "System" "bound" "System.bound" s_System_bound
  d_System_floors : WO.MetOk K "System" "floors" "System.floors" s_System_floors
  d_System_least_values : WO.MetOk K "System" "least_values" "System.least_values" s_System_least_values
  d_System_twin : WO.MetOk K "System" "twin" "System.twin" s_System_twin
  d_System__bring_in : WO.MetOk K "System" "_bring_in" "System._bring_in" s_System__bring_in
  z_abs : mg "abs" = none
  z_all : mg "all" = none
  z_bool : mg "bool" = none
  z_int : mg "int" = none
  z_isinstance : mg "isinstance" = none
  z_len : mg "len" = none
  z_list : mg "list" = none
  z_max : mg "max" = none
  z_range : mg "range" = none
  z_zip : mg "zip" = none
/-! ### the head -/
def fn : List He.DefD := [⟨("_wall", none), "_wall", "_wall", defArgs s_wall, defBody s_wall, defScope s_wall, [], []⟩, ⟨("_row_with_step", none), "_row_with_step", "_row_with_step", defArgs s_row_with_step, defBody s_row_with_step, defScope s_row_with_step, [], []⟩, ⟨("_joined", none), "_joined", "_joined", defArgs s_joined, defBody s_joined, defScope s_joined, [], []⟩, ⟨("_shorter", none), "_shorter", "_shorter", defArgs s_shorter, defBody s_shorter, defScope s_shorter, [], []⟩, ⟨("_law_cell", none), "_law_cell", "_law_cell", defArgs s_law_cell, defBody s_law_cell, defScope s_law_cell, [], []⟩, ⟨("_law_draws", none), "_law_draws", "_law_draws", defArgs s_law_draws, defBody s_law_draws, defScope s_law_draws, [], []⟩, ⟨("_law_weight", none), "_law_weight", "_law_weight", defArgs s_law_weight, defBody s_law_weight, defScope s_law_weight, [], []⟩, ⟨("_law_differences", none), "_law_differences", "_law_differences", defArgs s_law_differences, defBody s_law_differences, defScope s_law_differences, [], []⟩, ⟨("_law_is_integer", none), "_law_is_integer", "_law_is_integer", defArgs s_law_is_integer, defBody s_law_is_integer, defScope s_law_is_integer, [], []⟩, ⟨("_law_kept", none), "_law_kept", "_law_kept", defArgs s_law_kept, defBody s_law_kept, defScope s_law_kept, [], []⟩, ⟨("_law_raised", none), "_law_raised", "_law_raised", defArgs s_law_raised, defBody s_law_raised, defScope s_law_raised, [], []⟩, ⟨("_law_joined", none), "_law_joined", "_law_joined", defArgs s_law_joined, defBody s_law_joined, defScope s_law_joined, [], []⟩, ⟨("_law_fits", none), "_law_fits", "_law_fits", defArgs s_law_fits, defBody s_law_fits, defScope s_law_fits, [], []⟩, ⟨("law", none), "law", "law", defArgs s_law, defBody s_law, defScope s_law, [], []⟩, ⟨("System", some "__init__"), "__init__", "System.__init__", defArgs s_System___init, defBody s_System___init, defScope s_System___init, [], []⟩, ⟨("System", some "tie"), "tie", "System.tie", defArgs s_System_tie, defBody s_System_tie, defScope s_System_tie, [], []⟩, ⟨("System", some "bound"), "bound", "System.bound", defArgs s_System_bound, defBody s_System_bound, defScope s_System_bound, [], []⟩, ⟨("System", some "floors"), "floors", "System.floors", defArgs s_System_floors, defBody s_System_floors, defScope s_System_floors, [], []⟩, ⟨("System", some "least_values"), "least_values", "System.least_values", defArgs s_System_least_values, defBody s_System_least_values, defScope s_System_least_values, [], []⟩, ⟨("System", some "twin"), "twin", "System.twin", defArgs s_System_twin, defBody s_System_twin, defScope s_System_twin, [], []⟩, ⟨("System", some "_bring_in"), "_bring_in", "System._bring_in", defArgs s_System__bring_in, defBody s_System__bring_in, defScope s_System__bring_in, [], []⟩]
def fa : List He.Fa := [.glo "_wall", .glo "_row_with_step", .glo "_joined", .glo "_shorter", .glo "_law_cell", .glo "_law_draws", .glo "_law_weight", .glo "_law_differences", .glo "_law_is_integer", .glo "_law_kept", .glo "_law_raised", .glo "_law_joined", .glo "_law_fits", .glo "law", .free "abs", .free "all", .free "bool", .free "int", .free "isinstance", .free "len", .free "list", .free "max", .free "range", .free "zip", .glo "System", .cls "System", .noat "System" "many", .noat "System" "differences", .noat "System" "_table", .mkr "System", .meth "System" "tie", .meth "System" "bound", .meth "System" "floors", .meth "System" "least_values", .meth "System" "twin", .meth "System" "_bring_in"]
def ts : List He.Tab := []
def ex (K : PySem.W.Frag) : Bool := true
abbrev R : PySem.W.OpenRow := PySem.W.OpenLaw.row PySem.Challenge.rw_wayorring_k16_bounds_are_closed
abbrev hk : PySem.W.Hook := He.hookX 6 fa fn ts [] ex
def ob (s : PySem.W.SharedT) : He.AlX := He.obsX 6 fa fn ts [] ex (HandSHeadRun.getT s)
theorem ob_eq (s : PySem.W.SharedT) : ob s = hk.obs s.abs := He.obsX_eq (HandSHeadRun.getT_eq s)
def loose : List Str := (["_wall", "System", "_row_with_step", "_joined", "_shorter", "_law_cell", "_law_draws", "_law_weight", "_law_differences", "_law_is_integer", "_law_kept", "_law_raised", "_law_joined", "_law_fits"] : List Str)
set_option maxHeartbeats 0 in
theorem run (w : World) : HandSHeadRun.RunEq R (PySem.W.view R.prog [16]) hk ob 20000 loose w := by
  intro os
  kernel_rfl
theorem tx_of {w : World} {K : PySem.W.Frag} {h h2 : Heap} {mg : Str → Option Value} (X : K.In h) (G : h.Ns mainGlobals mg) (c2 : He.SaysX fa fn ts [] ex w h2 K) : Tx K mg := by
  have c := c2.t.d
  have m : ex K = true := c2.more
  refine ⟨?_, ?_, ?_, ?_, ?_, ?_, ?_, ?_, ?_, ?_, ?_, ?_, ?_, ?_, ?_, ?_, ?_, ?_, ?_, ?_, ?_, ?_, ?_, ?_, ?_, ?_, ?_, ?_, ?_, ?_, ?_, ?_, ?_, ?_, ?_⟩
  · obtain ⟨fd, F⟩ := c.def_ 0 rfl
    exact ⟨_, fd, F, He.glo_ok X G (c.fact 0 (f := .glo "_wall") rfl)⟩
  · obtain ⟨fd, F⟩ := c.def_ 1 rfl
    exact ⟨_, fd, F, He.glo_ok X G (c.fact 1 (f := .glo "_row_with_step") rfl)⟩
  · obtain ⟨fd, F⟩ := c.def_ 2 rfl
    exact ⟨_, fd, F, He.glo_ok X G (c.fact 2 (f := .glo "_joined") rfl)⟩
  · obtain ⟨fd, F⟩ := c.def_ 3 rfl
    exact ⟨_, fd, F, He.glo_ok X G (c.fact 3 (f := .glo "_shorter") rfl)⟩
  · obtain ⟨fd, F⟩ := c.def_ 4 rfl
    exact ⟨_, fd, F, He.glo_ok X G (c.fact 4 (f := .glo "_law_cell") rfl)⟩
  · obtain ⟨fd, F⟩ := c.def_ 5 rfl
    exact ⟨_, fd, F, He.glo_ok X G (c.fact 5 (f := .glo "_law_draws") rfl)⟩
  · obtain ⟨fd, F⟩ := c.def_ 6 rfl
    exact ⟨_, fd, F, He.glo_ok X G (c.fact 6 (f := .glo "_law_weight") rfl)⟩
  · obtain ⟨fd, F⟩ := c.def_ 7 rfl
    exact ⟨_, fd, F, He.glo_ok X G (c.fact 7 (f := .glo "_law_differences") rfl)⟩
  · obtain ⟨fd, F⟩ := c.def_ 8 rfl
    exact ⟨_, fd, F, He.glo_ok X G (c.fact 8 (f := .glo "_law_is_integer") rfl)⟩
  · obtain ⟨fd, F⟩ := c.def_ 9 rfl
    exact ⟨_, fd, F, He.glo_ok X G (c.fact 9 (f := .glo "_law_kept") rfl)⟩
  · obtain ⟨fd, F⟩ := c.def_ 10 rfl
    exact ⟨_, fd, F, He.glo_ok X G (c.fact 10 (f := .glo "_law_raised") rfl)⟩
  · obtain ⟨fd, F⟩ := c.def_ 11 rfl
    exact ⟨_, fd, F, He.glo_ok X G (c.fact 11 (f := .glo "_law_joined") rfl)⟩
  · obtain ⟨fd, F⟩ := c.def_ 12 rfl
    exact ⟨_, fd, F, He.glo_ok X G (c.fact 12 (f := .glo "_law_fits") rfl)⟩
  · obtain ⟨fd, F⟩ := c.def_ 13 rfl
    exact ⟨_, fd, F, He.glo_ok X G (c.fact 13 (f := .glo "law") rfl)⟩
  · exact He.cls_ok (c.fact 25 (f := .cls "System") rfl)
  · exact He.noat_ok (c.fact 26 (f := .noat "System" "many") rfl)
  · exact He.noat_ok (c.fact 27 (f := .noat "System" "differences") rfl)
  · exact He.noat_ok (c.fact 28 (f := .noat "System" "_table") rfl)
  · obtain ⟨fd, F⟩ := c.def_ 14 rfl
    exact ⟨_, fd, F, He.mkr_ok (c.fact 29 (f := .mkr "System") rfl), He.glo_ok X G (c.fact 24 (f := .glo "System") rfl)⟩
  · obtain ⟨fd, F⟩ := c.def_ 15 rfl
    exact ⟨_, fd, F, He.meth_ok (c.fact 30 (f := .meth "System" "tie") rfl)⟩
  · obtain ⟨fd, F⟩ := c.def_ 16 rfl
    exact ⟨_, fd, F, He.meth_ok (c.fact 31 (f := .meth "System" "bound") rfl)⟩
  · obtain ⟨fd, F⟩ := c.def_ 17 rfl
    exact ⟨_, fd, F, He.meth_ok (c.fact 32 (f := .meth "System" "floors") rfl)⟩
  · obtain ⟨fd, F⟩ := c.def_ 18 rfl
    exact ⟨_, fd, F, He.meth_ok (c.fact 33 (f := .meth "System" "least_values") rfl)⟩
  · obtain ⟨fd, F⟩ := c.def_ 19 rfl
    exact ⟨_, fd, F, He.meth_ok (c.fact 34 (f := .meth "System" "twin") rfl)⟩
  · obtain ⟨fd, F⟩ := c.def_ 20 rfl
    exact ⟨_, fd, F, He.meth_ok (c.fact 35 (f := .meth "System" "_bring_in") rfl)⟩
  · exact He.free_ok X G (c.fact 14 (f := .free "abs") rfl)
  · exact He.free_ok X G (c.fact 15 (f := .free "all") rfl)
  · exact He.free_ok X G (c.fact 16 (f := .free "bool") rfl)
  · exact He.free_ok X G (c.fact 17 (f := .free "int") rfl)
  · exact He.free_ok X G (c.fact 18 (f := .free "isinstance") rfl)
  · exact He.free_ok X G (c.fact 19 (f := .free "len") rfl)
  · exact He.free_ok X G (c.fact 20 (f := .free "list") rfl)
  · exact He.free_ok X G (c.fact 21 (f := .free "max") rfl)
  · exact He.free_ok X G (c.fact 22 (f := .free "range") rfl)
  · exact He.free_ok X G (c.fact 23 (f := .free "zip") rfl)
def spLaw (K : PySem.W.Frag) : Sp := fun vs H Q _ => ∃ (a : Addr) (ns : List Int), vs = [.ref a] ∧ SqL K H a (ns.map V.int) ∧ ns.length ≤ 63 ∧ ∀ H', Q (.bl true) H'
end K16
namespace K16
open PySem PySem.Spec PyProof.Rows L2 Wy WN

-- WIDE
section
variable {P : Program} {w : World} {K : PySem.W.Frag} {mg : Str → Option Value} {base : Heap}
theorem k_law_cell (T : Tx K mg) : C8.Cal P w K mg base 1 "_law_cell" (spCellN K) [] := by
  refine cal_of (N := n_law_cell) T.d_law_cell sc_law_cell (fun _ _ F => F.bindsN fun _ _ _ _ _ _ us hl => match us, hl with | [_, _], _ => rfl) (fun vs H Q E h => ?_) (fun f cdv A outer s H vs Q E hr h => ?_)
  · obtain ⟨a, ns, k, rfl, _⟩ := h
    rfl
  · obtain ⟨a, ns, k, rfl, hS, q⟩ := h
    refine ⟨_, (pss_cons (ps_if (pt_cmpR op_gt (pe_callB (call_len2 : CallR _ _ (rLn K)) (by rfl) T.z_len (by decide +kernel) (pa_cons (pv 0) pa_nil)) pe_int (nomark _)) (pss_one (ps_ret (pe_ix (ix_seq : IxR _ (rIx K)) (pv 0) (pe_op op_mod (pe_callTy call_int2 (by rfl) T.z_int (by decide +kernel) (pa_cons (pv 1) pa_nil)) (pe_callB (call_len2 : CallR _ _ (rLn K)) (by rfl) T.z_len (by decide +kernel) (pa_cons (pv 0) pa_nil))) (fun _ _ => rfl)))) pss_nil) (pss_one (ps_ret pe_int))), ?_⟩
    walk_at "ss"
    refine b_lenL hS ?_
    walk_at "ss"
    refine iteD (fun e => ?_) (fun e => ?_)
    · rw [List.length_map] at e
      walk_at "ss"
      refine b_lenL hS ?_
      rw [List.length_map]
      refine o_modG e fun r r0 r1 => ?_
      refine ix_int hS r0 r1 fun x _ => ?_
      exact q x
    · walk_at "ss"
      exact q 0
theorem k_law_draws (T : Tx K mg) : C8.Cal P w K mg base 2 "_law_draws" (spDraws K) [] := by
  refine cal_of (N := n_law_draws) T.d_law_draws sc_law_draws (fun _ _ F => F.bindsN fun _ _ _ _ _ _ us hl => match us, hl with | [_, _, _], _ => rfl) (fun vs H Q E h => ?_) (fun f cdv A outer s H vs Q E hr h => ?_)
  · obtain ⟨a, b, ns, ss, k, rfl, _⟩ := h
    rfl
  · obtain ⟨a, b, ns, ss, k, rfl, hS, hB, hz, q⟩ := h
    refine ⟨_, (pss_cons (ps_asg (pe_lst (pa_cons pe_int (pa_cons pe_int (pa_cons pe_int (pa_cons pe_int (pa_cons pe_int (pa_cons pe_int (pa_cons pe_int (pa_cons pe_int pa_nil))))))))) (pg_name (i := 3) sc_law_draws.nd rfl (Or.inl rfl))) (pss_cons (ps_asg (pe_callB call_abs2 (by rfl) T.z_abs (by decide +kernel) (pa_cons (C8.pe_c (k_law_cell T) hr (by first | decide | omega) (by rfl) (pa_cons (pv 0) (pa_cons (pv 1) pa_nil))) pa_nil)) (pg_name (i := 4) sc_law_draws.nd rfl (Or.inl rfl))) (pss_cons (ps_asg pe_int (pg_name (i := 5) sc_law_draws.nd rfl (Or.inl rfl))) (C8.pss_cut (ps_if (pt_cmpR op_ge (pv 4) (pe_op op_pow pe_int pe_int) (nomark _)) (pss_one (ps_asg (pv 4) (pg_name (i := 5) sc_law_draws.nd rfl (Or.inl rfl)))) pss_nil) (pss_cons (ps_asg (pe_lst pa_nil) (pg_name (i := 6) sc_law_draws.nd rfl (Or.inl rfl))) (pss_cons (ps_for PassesOwn.never rfl (pi_range1 (by rfl) T.z_range (pa_cons (pe_callB (call_len2 : CallR _ _ (rLn K)) (by rfl) T.z_len (by decide +kernel) (pa_cons (pv 2) pa_nil)) pa_nil)) (pg_name (i := 7) sc_law_draws.nd rfl (Or.inl rfl)) (pss_one (ps_if (pt_cmpR op_gt (pv 5) pe_int (nomark _)) (pss_cons (ps_expr (pe_bm PySem.F.plainAttrs_list PySem.F.slot_list_append PySem.F.type_list_append mt_append (pv 6) (pa_cons (pe_op op_mod (pe_callTy call_int2 (by rfl) T.z_int (by decide +kernel) (pa_cons (pv 5) pa_nil)) (pe_ix (ix_seq : IxR _ (rIx K)) (pv 2) (pv 7) (fun _ _ => rfl))) pa_nil) : PE _ _ (tBM K _ _ _ _))) (pss_one (ps_asg (pe_op op_fdivW (pv 5) (pe_ix (ix_seq : IxR _ (rIx K)) (pv 2) (pv 7) (fun _ _ => rfl))) (pg_name (i := 5) sc_law_draws.nd rfl (Or.inl rfl))))) (pss_cons (ps_asg (pe_op op_mod (pe_callTy call_int2 (by rfl) T.z_int (by decide +kernel) (pa_cons (pe_op op_add3 (pe_op op_mul2 (pe_op op_add3 (pe_op op_add3 (pe_op op_add3 (pv 4) pe_int) (pe_op op_mul2 pe_int (pv 1))) (pv 7)) pe_int) (pe_op op_mul2 pe_int (pv 7))) pa_nil)) (pe_ix (ix_seq : IxR _ (rIx K)) (pv 3) (pe_op op_mod (pv 7) pe_int) (fun _ _ => rfl))) (pg_name (i := 8) sc_law_draws.nd rfl (Or.inl rfl))) (pss_cons (ps_asg (pe_op op_mod (pe_callTy call_int2 (by rfl) T.z_int (by decide +kernel) (pa_cons (pe_op op_add3 (pe_op op_add3 (pe_op op_mul2 (pv 8) (pv 8)) (pe_op op_mul2 pe_int (pv 7))) (pv 1)) pa_nil)) (pe_ix (ix_seq : IxR _ (rIx K)) (pv 3) (pe_op op_mod (pe_op op_add3 (pv 7) pe_int) pe_int) (fun _ _ => rfl))) (pg_name (i := 9) sc_law_draws.nd rfl (Or.inl rfl))) (pss_cons (ps_asg (pe_op op_mod (pe_callTy call_int2 (by rfl) T.z_int (by decide +kernel) (pa_cons (pe_op op_add3 (pe_op op_add3 (pe_op op_mul2 (pv 9) pe_int) (pe_op op_mul2 (pv 8) pe_int)) (pv 7)) pa_nil)) (pe_ix (ix_seq : IxR _ (rIx K)) (pv 3) (pe_op op_mod (pe_op op_add3 (pv 7) pe_int) pe_int) (fun _ _ => rfl))) (pg_name (i := 9) sc_law_draws.nd rfl (Or.inl rfl))) (pss_one (ps_expr (pe_bm PySem.F.plainAttrs_list PySem.F.slot_list_append PySem.F.type_list_append mt_append (pv 6) (pa_cons (pe_op op_mod (pe_callTy call_int2 (by rfl) T.z_int (by decide +kernel) (pa_cons (pe_op op_fdivW (pv 9) pe_int) pa_nil)) (pe_ix (ix_seq : IxR _ (rIx K)) (pv 2) (pv 7) (fun _ _ => rfl))) pa_nil) : PE _ _ (tBM K _ _ _ _)))))))))) (pss_one (ps_ret (pv 6))))))))), ?_⟩
    walk_at "ss"
    refine n_obj (lz (Nat.le_of_ble_eq_true rfl)) fun pr H1 np s1 e1 => ?_
    walk_at "ss"
    refine ⟨a, ns, k, rfl, s1.seq hS, fun cell => ?_⟩
    walk_at "ss"
    refine s_cut (fun σ H' => ∃ rest : Int, σ = [some (.ref a), some (.int k), some (.ref b), some (.ref pr), some (.int (if cell < 0 then -cell else cell)), some (.int rest), none, none, none, none] ∧ H1 = H') ?_ (fun σ H' p => ?_)
    · walk_at "ss"
      refine iteD (fun e => ?_) (fun e => ?_)
      · walk_at "ss"
        exact ⟨_, rfl, rfl⟩
      · walk_at "ss"
        exact ⟨_, rfl, rfl⟩
    obtain ⟨rest, rfl, rfl⟩ := p
    generalize (if cell < 0 then -cell else cell) = cell
    walk_at "ss"
    refine n_obj (lz (Nat.le_of_ble_eq_true rfl)) fun d H2 nd s2 e2 => ?_
    have hB2 := (s1.trans s2).seq hB
    walk_at "ss"
    refine b_lenL hB2 ?_
    have hl := hz.1
    walk_at "ss"
    rw [List.length_map]
    refine k_r1 (by omega) (by omega) ?_
    refine f_range (fun i σ H' => ∃ x y z, ∃ rest : Int, ∃ ds : List Int, σ = [some (.ref a), some (.int k), some (.ref b), some (.ref pr), some (.int cell), some (.int rest), some (.ref d), x, y, z] ∧ Same H1 H' ∧ H' d = some (.lst (ds.map V.int)) ∧ Dr ds (ss.take i))
      ⟨_, _, _, _, [], rfl, s2, e2, .nil⟩ (fun i σ H3 hi p => ?_) (fun σ H3 p => ?_)
    · obtain ⟨x, y, z, rest, ds, rfl, s3, e3, hd⟩ := p
      have hi : i < ss.length := hi
      have gi := List.getElem?_eq_getElem hi
      obtain ⟨z0, z1⟩ := hz.2 _ (List.getElem_mem hi)
      have hB3 := (s1.trans s3).seq hB
      have ep := s3 _ _ e1
      have ln : (ds.map V.int).length < sizeLine := by
        have := hd.len
        rw [List.length_take] at this
        exact small1000' (by rw [List.length_map]; omega)
      have snoc : ∀ d' : Int, 0 ≤ d' → d' < ss[i] → Dr (ds ++ [d']) (ss.take (i + 1)) := fun d' h0 h1 => by
        rw [List.take_succ, gi]
        exact hd.snoc h0 h1
      have gg : (ss.map V.int)[i]? = some (.int ss[i]) := by rw [List.getElem?_map, gi]; rfl
      rw [Int.zero_add]
      walk_at "ss"
      refine iteD (fun e => ?_) (fun e => ?_)
      · walk_at "ss"
        refine m_ty (lst_of e3) ?_
        walk_at "ss"
        refine o_ixL hB3 (atI_nat gg) ?_
        refine o_modG z0 fun r r0 r1 => ?_
        walk_at "ss"
        refine m_app e3 ln fun H4 c4 e4 => ?_
        walk_at "ss"
        refine o_ixL ((s1.trans (c4.same s3 nd)).seq hB) (atI_nat gg) ?_
        walk_at "ss"
        exact ⟨_, _, _, _, ds ++ [r], rfl, c4.same s3 nd, by rw [e4, List.map_append]; rfl, snoc r r0 r1⟩
      · walk_at "ss"
        refine ix_pr ep (Int.emod_nonneg _ (by omega)) (Int.emod_lt_of_pos _ (by omega)) fun p p0 p1 => ?_
        refine o_modG p0 fun f f0 f1 => ?_
        walk_at "ss"
        refine ix_pr ep (Int.emod_nonneg _ (by omega)) (Int.emod_lt_of_pos _ (by omega)) fun p p2 p3 => ?_
        refine o_modG p2 fun m m0 m1 => ?_
        walk_at "ss"
        refine ix_pr ep (Int.emod_nonneg _ (by omega)) (Int.emod_lt_of_pos _ (by omega)) fun p p2 p3 => ?_
        refine o_modG p2 fun m m0 m1 => ?_
        walk_at "ss"
        refine m_ty (lst_of e3) ?_
        walk_at "ss"
        refine o_ixL hB3 (atI_nat gg) ?_
        refine o_modG z0 fun r r0 r1 => ?_
        walk_at "ss"
        refine m_app e3 ln fun H4 c4 e4 => ?_
        exact ⟨_, _, _, _, ds ++ [r], rfl, c4.same s3 nd, by rw [e4, List.map_append]; rfl, snoc r r0 r1⟩
    · obtain ⟨x, y, z, rest, ds, rfl, s3, e3, hd⟩ := p
      have hd : Dr ds (ss.take ss.length) := hd
      rw [List.take_length] at hd
      walk_at "ss"
      exact q d H3 ds (s1.trans s3) (s1.free nd) e3 hd
end
end K16
namespace K16
open PySem PySem.Spec PyProof.Rows L2 Wy WN WQ WS WC

-- WIDE
section
variable {P : Program} {w : World} {K : PySem.W.Frag} {mg : Str → Option Value} {base : Heap}
theorem k_law_weight (T : Tx K mg) : C8.Cal P w K mg base 1 "_law_weight" spWt [] := by
  refine cal_of (N := n_law_weight) T.d_law_weight sc_law_weight (fun _ _ F => F.bindsN fun _ _ _ _ _ _ us hl => match us, hl with | [_], _ => rfl) (fun vs H Q E h => ?_) (fun f cdv A outer s H vs Q E hr h => ?_)
  · obtain ⟨d, rfl, _⟩ := h
    rfl
  · obtain ⟨d, rfl, q⟩ := h
    refine ⟨_, (pss_cons (ps_asg (pe_op op_mod (pe_callTy call_int2 (by rfl) T.z_int (by decide +kernel) (pa_cons (pv 0) pa_nil)) pe_int) (pg_name (i := 1) sc_law_weight.nd rfl (Or.inl rfl))) (pss_cons (ps_asg (pe_op op_fdivW (pv 0) pe_int) (pg_name (i := 2) sc_law_weight.nd rfl (Or.inl rfl))) (pss_cons (ps_if (pt_cmpR (op_eq2 hr.units : OpR _ _ (rEq2 K)) (pv 1) pe_int (nomark _)) (pss_one (ps_ret (pe_op op_mul2 (pe_op op_sub pe_int (pe_op op_mul2 pe_int (pe_op op_mod (pe_callTy call_int2 (by rfl) T.z_int (by decide +kernel) (pa_cons (pv 2) pa_nil)) pe_int))) (pe_op op_add3 (pe_op op_pow pe_int pe_int) (pe_op op_mod (pe_callTy call_int2 (by rfl) T.z_int (by decide +kernel) (pa_cons (pv 2) pa_nil)) (pe_op op_pow pe_int pe_int)))))) pss_nil) (pss_cons (ps_if (pt_cmpR (op_eq2 hr.units : OpR _ _ (rEq2 K)) (pv 1) pe_int (nomark _)) (pss_one (ps_ret (pe_op op_mul2 (pe_op op_sub pe_int (pe_op op_mul2 pe_int (pe_op op_mod (pe_callTy call_int2 (by rfl) T.z_int (by decide +kernel) (pa_cons (pv 2) pa_nil)) pe_int))) (pe_op op_mod (pe_callTy call_int2 (by rfl) T.z_int (by decide +kernel) (pa_cons (pe_op op_fdivW (pv 2) pe_int) pa_nil)) (pe_op op_pow pe_int pe_int))))) pss_nil) (pss_one (ps_ret (pe_op op_sub (pe_op op_mod (pe_callTy call_int2 (by rfl) T.z_int (by decide +kernel) (pa_cons (pv 2) pa_nil)) pe_int) pe_int))))))), ?_⟩
    walk_at "xx"
    refine iteI (fun e => ?_) (fun e => ?_)
    · walk_at "xx"
      refine o_mod (by decide +kernel) ?_
      walk_at "xx"
      exact q _
    · walk_at "xx"
      refine iteI (fun e => ?_) (fun e => ?_)
      · walk_at "xx"
        refine o_mod (by decide +kernel) ?_
        walk_at "xx"
        exact q _
      · walk_at "xx"
        exact q _
theorem k_law_differences (T : Tx K mg) : C8.Cal P w K mg base 3 "_law_differences" (spDiffs K) [] := by
  refine cal_of (N := n_law_differences) T.d_law_differences sc_law_differences (fun _ _ F => F.bindsN fun _ _ _ _ _ _ us hl => match us, hl with | [_, _, _, _], _ => rfl) (fun vs H Q E h => ?_) (fun f cdv A outer s H vs Q E hr h => ?_)
  · obtain ⟨a, zs, pl, n, m, rfl, _⟩ := h
    rfl
  · obtain ⟨a, zs, pl, n, m, rfl, hA, hn, hm, q⟩ := h
    refine ⟨_, (pss_cons (ps_asg (pe_lst pa_nil) (pg_name (i := 4) sc_law_differences.nd rfl (Or.inl rfl))) (pss_cons (ps_asg (C8.pe_c (k_law_draws T) hr (by first | decide | omega) (by rfl) (pa_cons (pv 0) (pa_cons (pv 1) (pa_cons (pe_lc (own := [("k", 5)]) (g := gName 5) (tt := tYes) (by rfl) sc_law_differences.nd (pi_range1 (by rfl) T.z_range (pa_cons (pe_op op_mul2 pe_int (pv 2)) pa_nil)) (blkOk_by (own := [("k", 5)]) (N := n_law_differences) (sc := defScope s_law_differences) (by decide +kernel)) (fun _ _ _ _ _ => pg_name (i := 5) sc_law_differences.nd rfl (Or.inl rfl)) (fun _ _ _ _ _ => pts_nil) (fun _ _ _ _ _ => (pe_ifExp (pt_cmpR (op_eq2 hr.units : OpR _ _ (rEq2 K)) (pe_op op_mod (pv 5) pe_int) pe_int (nomark _)) (pe_op op_pow pe_int pe_int) (pe_op op_add3 (pv 3) pe_int)))) pa_nil)))) (pg_name (i := 6) sc_law_differences.nd rfl (Or.inl rfl))) (pss_cons (ps_for PassesOwn.never rfl (pi_range1 (by rfl) T.z_range (pa_cons (pv 2) pa_nil)) (pg_name (i := 5) sc_law_differences.nd rfl (Or.inl rfl)) (pss_one (ps_expr (pe_bm PySem.F.plainAttrs_list PySem.F.slot_list_append PySem.F.type_list_append mt_append (pv 4) (pa_cons (pe_tup (pa_cons (pe_ix (ix_seq : IxR _ (rIx K)) (pv 6) (pe_op op_mul2 pe_int (pv 5)) (fun _ _ => rfl)) (pa_cons (pe_ix (ix_seq : IxR _ (rIx K)) (pv 6) (pe_op op_add3 (pe_op op_mul2 pe_int (pv 5)) pe_int) (fun _ _ => rfl)) (pa_cons (C8.pe_c (k_law_weight T) hr (by first | decide | omega) (by rfl) (pa_cons (pe_ix (ix_seq : IxR _ (rIx K)) (pv 6) (pe_op op_add3 (pe_op op_mul2 pe_int (pv 5)) pe_int) (fun _ _ => rfl)) pa_nil)) pa_nil)))) pa_nil) : PE _ _ (tBM K _ _ _ _))))) (pss_one (ps_ret (pv 4)))))), ?_⟩
    walk_at "xx"
    rename_i dp H1 n1 s1 e1
    refine c_accR (One fun j y _ => y = .int (if j % 3 = 2 then 10 ^ 42 else (m : Int) + 1)) (fun _ _ _ _ _ h => h) (fun i acc H hi h => small1000 (by rw [h.1]; omega)) One.zero (fun j H2 acc N M hj s2 o hN hM => ?_) (fun D H2 ys nD s2 e2 o => ?_)
    · rw [Int.zero_add]
      walk_at "xx"
      refine ⟨rfl, ?_⟩
      walk_at "xx"
      refine iteI (fun e => ?_) (fun e => ?_)
      · walk_at "xx"
        exact hN _ _ (Same.refl _) (o.snoc (fun _ _ h => h) (by rw [if_pos (by omega)]; rfl))
      · walk_at "xx"
        exact hN _ _ (Same.refl _) (o.snoc (fun _ _ h => h) (by rw [if_neg (by omega)]))
    have ey := o.eqR fun j y _ h => h
    have nn : (3 * (n : Int)).toNat = 3 * n := by omega
    rw [nn] at ey
    have ey : ys = ((List.range (3 * n)).map fun j => if j % 3 = 2 then (10 : Int) ^ 42 else (m : Int) + 1).map V.int := by
      rw [ey, List.map_map]
      rfl
    rw [ey] at e2
    clear o ey
    walk_at "xx"
    refine ⟨a, D, zs, _, pl, rfl, (s1.trans s2).seq hA, lst_of e2, ⟨by rw [List.length_map, List.length_range]; omega, fun s hs => ?_⟩, fun p H3 dr s3 n3 e3 hd => ?_⟩
    · obtain ⟨j, _, rfl⟩ := List.mem_map.mp hs
      split <;> omega
    have ld := hd.len
    rw [List.length_map, List.length_range] at ld
    have S3 : Same H1 H3 := s2.trans s3
    walk_at "xx"
    refine f_range (fun i σ H' => ∃ z us, ∃ ds : List Df, σ = [some (.ref a), some (.int pl), some (.int n), some (.int m), some (.ref dp), z, some (.ref p)] ∧ Same H H' ∧ H' p = some (.lst (dr.map V.int)) ∧ H' dp = some (.lst us) ∧ TpAll H' us (ds.map dfD) ∧ ds.length = i ∧ ∀ d ∈ ds, InR m d)
      ⟨_, _, [], rfl, s1.trans S3, e3, S3 _ _ e1, .nil, rfl, fun _ h => by cases h⟩ (fun i σ H4 hi p => ?_) (fun σ H4 p => ?_)
    · obtain ⟨z, us, ds, rfl, s4, e4, f4, t4, l4, r4⟩ := p
      have hi : i < n := hi
      have lu := t4.length
      rw [List.length_map] at lu
      have sz : ∀ j, j < 3 * n → ((List.range (3 * n)).map fun j => if j % 3 = 2 then (10 : Int) ^ 42 else (m : Int) + 1)[j]? = some (if j % 3 = 2 then (10 : Int) ^ 42 else (m : Int) + 1) := fun j hj => by rw [List.getElem?_map, List.getElem?_range hj]; rfl
      rw [Int.zero_add]
      walk_at "xx"
      refine m_ty (lst_of f4) ?_
      walk_at "xx"
      refine ix_int (lst_of e4) (by omega) (by omega) fun x gx => ?_
      walk_at "xx"
      refine ix_int (lst_of e4) (by omega) (by omega) fun y gy => ?_
      walk_at "xx"
      refine ix_int (lst_of e4) (by omega) (by omega) fun c gc => ?_
      walk_at "xx"
      refine ⟨c, rfl, fun c => ?_⟩
      obtain ⟨sx, g1, x0, x1⟩ := hd.get gx
      obtain ⟨sy, g2, y0, y1⟩ := hd.get gy
      rw [show (3 * (i : Int)).toNat = 3 * i by omega, sz _ (by omega), if_neg (by omega)] at g1
      rw [show (3 * (i : Int) + 1).toNat = 3 * i + 1 by omega, sz _ (by omega), if_neg (by omega)] at g2
      cases g1
      cases g2
      walk_at "xx"
      rename_i tp H5 n5 s5 e5
      refine m_app (s5 _ _ f4) (small1000 (by omega)) fun H6 c6 e6 => ?_
      have k6 : TK H4 H6 := s5.tk.trans (c6.tk (s5 _ _ f4))
      have np : dp ≠ p := fun e => by
        subst e
        rw [S3 _ _ e1] at e3
        have := (Option.some.inj e3)
        injection this with this
        cases dr with
        | nil => simp at ld; omega
        | cons _ _ => cases this
      walk_at "xx"
      refine ⟨_, us ++ [.ref tp], ds ++ [(x, y, c)], rfl, c6.same (s4.trans s5) n1, c6.at (s5 _ _ e4) (Ne.symm np), e6, ?_, by rw [List.length_append, l4]; rfl, fun d hd => ?_⟩
      · rw [List.map_append]
        exact tpSnoc (t4.tk k6) (Tp.tk (c6.tk (s5 _ _ f4)) (.tup e5 (by walk_at "tp")))
      · rcases List.mem_append.mp hd with hd | hd
        · exact r4 d hd
        · rw [List.mem_singleton.mp hd]
          exact ⟨x0, by show x ≤ _; omega, y0, by show y ≤ _; omega⟩
    · obtain ⟨z, us, ds, rfl, s4, e4, f4, t4, l4, r4⟩ := p
      walk_at "xx"
      exact q _ _ _ ds s4 n1 f4 t4 l4 r4
end
end K16
namespace K16
open PySem PySem.Spec PyProof.Rows L2 Wy WN WQ WS

-- WIDE
section
variable {P : Program} {w : World} {K : PySem.W.Frag} {mg : Str → Option Value} {base : Heap}
theorem k_law_is_integer (T : Tx K mg) : C8.Cal P w K mg base 1 "_law_is_integer" spIsInt [] := by
  refine cal_of (N := n_law_is_integer) T.d_law_is_integer sc_law_is_integer (fun _ _ F => F.bindsN fun _ _ _ _ _ _ us hl => match us, hl with | [_], _ => rfl) (fun vs H Q E h => ?_) (fun f cdv A outer s H vs Q E hr h => ?_)
  · obtain ⟨i, rfl, _⟩ := h
    rfl
  · obtain ⟨i, rfl, q⟩ := h
    refine ⟨_, (pss_one (ps_ret (pe_and (pe_callB (call_isi2 : CallR _ _ (rIsi2 K)) (by rfl) T.z_isinstance (by decide +kernel) (pa_cons (pv 0) (pa_cons (pe_bltn (v := .ty "int") (by rfl) T.z_int (by decide +kernel) rfl) pa_nil))) (pe_one (pe_not (pe_callB (call_isi2 : CallR _ _ (rIsi2 K)) (by rfl) T.z_isinstance (by decide +kernel) (pa_cons (pv 0) (pa_cons (pe_bltn (v := .ty "bool") (by rfl) T.z_bool (by decide +kernel) rfl) pa_nil)))))))), ?_⟩
    walk_at "xx"
    exact q
theorem k_law_kept (T : Tx K mg) : C8.Cal P w K mg base 1 "_law_kept" (spKept K) [] := by
  refine cal_of (N := n_law_kept) T.d_law_kept sc_law_kept (fun _ _ F => F.bindsN fun _ _ _ _ _ _ us hl => match us, hl with | [_, _], _ => rfl) (fun vs H Q E h => ?_) (fun f cdv A outer s H vs Q E hr h => ?_)
  · obtain ⟨a, b, us, ds, vals, rfl, _⟩ := h
    rfl
  · obtain ⟨a, b, us, ds, vals, rfl, hA, tA, hB, hin, hl, hv, q⟩ := h
    refine ⟨_, (pss_cons (ps_asg (pe_op op_add3 (pe_lst (pa_cons pe_int pa_nil)) (pv 1)) (pg_name (i := 2) sc_law_kept.nd rfl (Or.inr rfl))) (pss_one (ps_ret (pe_callC cc_all (by rfl) T.z_all (by decide +kernel) (pa_cons (pe_lc (own := [("u", 3), ("v", 4), ("c", 5)]) (g := (gTup K 3 (gCons (gName 3) (gCons (gName 4) (gCons (gName 5) (gNil)))))) (tt := tYes) (by rfl) sc_law_kept.nd (pi_seq (pv 0) : PI _ _ _ (iSeq K _)) (blkOk_by (own := [("u", 3), ("v", 4), ("c", 5)]) (N := n_law_kept) (sc := defScope s_law_kept) (by decide +kernel)) (fun _ _ _ _ _ => pg_tup (by rfl) (pgs_cons (pg_name (i := 3) sc_law_kept.nd rfl (Or.inl rfl)) (pgs_cons (pg_name (i := 4) sc_law_kept.nd rfl (Or.inl rfl)) (pgs_cons (pg_name (i := 5) sc_law_kept.nd rfl (Or.inl rfl)) pgs_nil)))) (fun _ _ _ _ _ => pts_nil) (fun _ _ _ _ _ => (pe_cmpR op_le (pe_op op_sub (pe_ix (ix_seq : IxR _ (rIx K)) (pv 2) (pv 3) (fun _ _ => rfl)) (pe_ix (ix_seq : IxR _ (rIx K)) (pv 2) (pv 4) (fun _ _ => rfl))) (pv 5) (nomark _)))) pa_nil))))), ?_⟩
    have lu := tA.length
    rw [List.length_map] at lu
    walk_at "xx"
    refine o_addL (by walk_at "hp") (by walk_at "hp") (by rw [List.length_map]; exact lz (by show 1 + _ ≤ _; omega)) fun lp H2 np s2 e2 => ?_
    have e2 : H2 lp = some (.lst ((0 :: vals).map V.int)) := e2
    walk_at "xx"
    have s0 : Same H H2 := by walk_at "sa"
    refine w_sq (hA.same s0) rfl fun J hJ => ?_
    refine c_acc hJ (One fun j y _ => ∃ d, ds[j]? = some d ∧ y = .bl (kept vals d)) (fun i acc H1 H2 _ h => h) (fun i acc H1 hi h => small1000' (by rw [h.1]; omega)) One.zero (fun j x H3 acc N M hx s3 o hN hM => ?_) (fun D H3 ys nD s3 e3 o => ?_)
    · obtain ⟨d, hd, td⟩ := tpGet (tA.tk (s0.trans s3).tk) hx
      obtain ⟨a1, _, _, _, rfl, ea, t1, t2, t3⟩ := WQ.tp3 td
      cases t1
      cases t2
      cases t3
      obtain ⟨r1, r2, r3, r4⟩ := hin d (List.mem_of_getElem? hd)
      walk_at "xx"
      refine ⟨rfl, ?_⟩
      walk_at "xx"
      refine ix_lv (by walk_at "sq") r1 (by omega) ?_
      walk_at "xx"
      refine ix_lv (by walk_at "sq") r3 (by omega) ?_
      walk_at "xx"
      exact hN _ _ (Same.refl _) (o.snoc (fun _ _ h => h) ⟨d, hd, rfl⟩)
    · have e := One.eq (xs := ds) (F := fun d => V.bl (kept vals d)) (lu ▸ o) (fun j y hj p => by
        obtain ⟨d, hd, rfl⟩ := p
        rw [hd]
        rfl)
      walk_at "xx"
      rw [e] at e3
      refine b_allM (lst_of e3) ?_
      exact q _ (by walk_at "sa")
end
end K16
namespace K16
open PySem PySem.Spec PyProof.Rows L2 Wy WN WQ WS WC WE WO WT

-- WIDE
section
variable {P : Program} {w : World} {K : PySem.W.Frag} {mg : Str → Option Value} {base : Heap}
theorem k_joined (T : Tx K mg) : C8.Cal P w K mg base 1 "_joined" (spJoin K) [] := by
  refine cal_of (N := n_joined) T.d_joined sc_joined (fun _ _ F => F.bindsN fun _ _ _ _ _ _ us hl => match us, hl with | [_, _], _ => rfl) (fun vs H Q E h => ?_) (fun f cdv A outer s H vs Q E hr h => ?_)
  · obtain ⟨x, y, a, b, rfl, _⟩ := h
    rfl
  · obtain ⟨x, y, a, b, rfl, tx, ty, hl, q⟩ := h
    obtain ⟨x1, x2, rfl, ex, ex2⟩ := cellS tx rfl
    obtain ⟨y1, y2, rfl, ey, ey2⟩ := cellS ty rfl
    clear tx ty
    refine ⟨_, (pss_one (ps_ret (pe_tup (pa_cons (pe_op op_add3 (pe_ix (ix_seq : IxR _ (rIx K)) (pv 0) pe_int (fun _ _ => rfl)) (pe_ix (ix_seq : IxR _ (rIx K)) (pv 1) pe_int (fun _ _ => rfl))) (pa_cons (pe_op (op_catA : OpR _ _ (rCatA K)) (pe_ix (ix_seq : IxR _ (rIx K)) (pv 0) pe_int (fun _ _ => rfl)) (pe_ix (ix_seq : IxR _ (rIx K)) (pv 1) pe_int (fun _ _ => rfl))) pa_nil))))), ?_⟩
    walk_at "xx"
    have hz : sizeLine = 16777216 := sizeLine_eq
    refine o_catT ex2 ey2 (by rw [List.length_map, List.length_map, hz]; omega) fun p H2 s2 e2 => ?_
    walk_at "xx"
    rename_i p' H3 n3 s3 e3
    refine q _ _ (s2.trans s3) (cellT (p := joinC a b) e3 ?_)
    rw [s3 _ _ e2]
    simp only [joinC, List.map_append]
theorem k_shorter (T : Tx K mg) : C8.Cal P w K mg base 2 "_shorter" (spShorter K) [] := by
  refine cal_of (N := n_shorter) T.d_shorter sc_shorter (fun _ _ F => F.bindsN fun _ _ _ _ _ _ us hl => match us, hl with | [_, _, _], _ => rfl) (fun vs H Q E h => ?_) (fun f cdv A outer s H vs Q E hr h => ?_)
  · obtain ⟨x, y, z, old, rest, a, rfl, _⟩ := h
    rfl
  · obtain ⟨x, y, z, old, rest, a, rfl, tx, ty, tz, hl, q⟩ := h
    obtain ⟨y1, y2, rfl, ey, ey2⟩ := cellS ty rfl
    refine ⟨_, (pss_cons (ps_if (PW.pt (pw_or (pt_cmpR op_isN2 (pv 2) pe_non (nomark _)) (pw_or1 (PW.pt (pw_and (pt_cmpR op_ntN2 (pv 0) pe_non (nomark _)) (pw_and1 (pt_cmpR op_le (pe_ix (ix_seq : IxR _ (rIx K)) (pv 0) pe_int (fun _ _ => rfl)) (pe_op op_add3 (pe_ix (ix_seq : IxR _ (rIx K)) (pv 1) pe_int (fun _ _ => rfl)) (pe_ix (ix_seq : IxR _ (rIx K)) (pv 2) pe_int (fun _ _ => rfl))) (nomark _)))))))) (pss_one (ps_ret (pv 0))) pss_nil) (pss_one (ps_ret (C8.pe_c (k_joined T) hr (by first | decide | omega) (by rfl) (pa_cons (pv 1) (pa_cons (pv 2) pa_nil)))))), ?_⟩
    walk_at "xx"
    cases rest with
    | none =>
      cases cellN tz rfl
      walk_at "xx"
      exact q _ _ (Same.refl _) tx
    | some r =>
      obtain ⟨z1, z2, rfl, ez, ez2⟩ := cellS tz rfl
      have jn : ∀ (N : VK), (∀ p H', Same H H' → Tp H' p (cellD (some (joinC a r))) → N p H') → spJoin K [.ref y1, .ref z1] H N C8.E0 := fun N h => ⟨_, _, a, r, rfl, ty, tz, hl r rfl, h⟩
      cases old with
      | none =>
        cases cellN tx rfl
        walk_at "xx"
        exact jn _ fun p H' s t => q _ _ s t
      | some o =>
        obtain ⟨x1, x2, rfl, ex, ex2⟩ := cellS tx rfl
        rw [shorter_some] at q
        walk_at "xx"
        refine iteD (fun e => ?_) (fun e => ?_)
        · rw [if_pos e] at q
          walk_at "xx"
          exact q _ _ (Same.refl _) tx
        · rw [if_neg e] at q
          walk_at "xx"
          exact jn _ fun p H' s t => q _ _ s t
theorem k_row_with_step (T : Tx K mg) : C8.Cal P w K mg base 3 "_row_with_step" (spRowS K) [] := by
  refine cal_of (N := n_row_with_step) T.d_row_with_step sc_row_with_step (fun _ _ F => F.bindsN fun _ _ _ _ _ _ us hl => match us, hl with | [_, _, _, _], _ => rfl) (fun vs H Q E h => ?_) (fun f cdv A outer s H vs Q E hr h => ?_)
  · obtain ⟨r, bh, bf, st, cs, ks, row, behind, before, p, L, rfl, _⟩ := h
    rfl
  · obtain ⟨r, bh, bf, st, cs, ks, row, behind, before, p, L, rfl, er, tr, tb, ts, eb, tk, hl, h2, hb1, hb2, hL, q⟩ := h
    refine ⟨_, (pss_cons (ps_if (pt_cmpR op_isN2 (pv 1) pe_non (nomark _)) (pss_one (ps_ret (pv 0))) pss_nil) (pss_cons (ps_asg (C8.pe_c (k_joined T) hr (by first | decide | omega) (by rfl) (pa_cons (pv 1) (pa_cons (pv 2) pa_nil))) (pg_name (i := 4) sc_row_with_step.nd rfl (Or.inr rfl))) (pss_one (ps_ret (pe_lc (own := [("old", 5), ("rest", 6)]) (g := (gTup K 2 (gCons (gName 5) (gCons (gName 6) (gNil))))) (tt := tYes) (by rfl) sc_row_with_step.nd (pi_zip (by rfl) T.z_zip (pa_cons (pv 0) (pa_cons (pv 3) pa_nil))) (blkOk_by (own := [("old", 5), ("rest", 6)]) (N := n_row_with_step) (sc := defScope s_row_with_step) (by decide +kernel)) (fun _ _ _ _ _ => pg_tup (by rfl) (pgs_cons (pg_name (i := 5) sc_row_with_step.nd rfl (Or.inl rfl)) (pgs_cons (pg_name (i := 6) sc_row_with_step.nd rfl (Or.inl rfl)) pgs_nil))) (fun _ _ _ _ _ => pts_nil) (fun _ _ _ _ _ => (C8.pe_c (k_shorter T) hr (by first | decide | omega) (by rfl) (pa_cons (pv 5) (pa_cons (pv 4) (pa_cons (pv 6) pa_nil)))))))))), ?_⟩
    have lc := tr.length
    have lk := tk.length
    rw [List.length_map] at lc lk
    walk_at "xx"
    cases before with
    | none =>
      cases cellN tb rfl
      walk_at "xx"
      exact q r H cs (Same.refl _) er tr (.inl rfl)
    | some b =>
      obtain ⟨b1, b2, rfl, eb1, eb2⟩ := cellS tb rfl
      have hbl := hb1 b rfl
      walk_at "xx"
      refine ⟨_, _, b, p, rfl, tb, ts, by omega, fun th H1 s1 t1 => ?_⟩
      walk_at "xx"
      refine ⟨r, bh, cs, ks, rfl, lst_of (s1 _ _ er), lst_of (s1 _ _ eb), ?_⟩
      refine c_it (walk_zip (n := row.length) (by omega)) (fun D i acc H2 => TpAll H2 acc (((row.zip behind).take i).map fun (p2 : Cell × Cell) => cellD (shorter p2.1 (joinC b p) p2.2))) (fun H' s' => ⟨lst_of (s' _ _ (s1 _ _ er)), lst_of (s' _ _ (s1 _ _ eb))⟩)
        (fun i H1 x H2 y => ypair_same y) (small1000' (by omega)) (fun D i acc H1 t => by have := t.length; rw [List.length_map, List.length_take] at this; omega) (fun D i acc H1 H2 c ⟨ys, e⟩ t => t.tk (c.tk e)) (fun D H1 nD s e => .nil) (fun D i x H2 H3 acc N M hi nD s2 eD o y s3 hN hM => ?_) (fun D H2 ys nD s2 e2 o => ?_)
      · obtain ⟨T', x1, x2, rfl, nT, rfl, g1, g2⟩ := y
        have S3 := s1.trans (s2.trans s3)
        obtain ⟨c1, gc1, tc1⟩ := tpGet (F := cellD) (tr.tk S3.tk) g1
        obtain ⟨c2, gc2, tc2⟩ := tpGet (F := cellD) (tk.tk S3.tk) g2
        have eT : (upd H2 T' (.tup [x1, x2])) T' = some (.tup [x1, x2]) := upd_same
        walk_at "xx"
        refine ⟨rfl, ?_⟩
        walk_at "xx"
        refine ⟨x1, th, x2, c1, c2, joinC b p, rfl, tc1, t1.tk (s2.trans s3).tk, tc2, fun c e => ?_, fun pp H4 s4 t4 => ?_⟩
        · subst e
          have := hb2 c (List.mem_of_getElem? gc2)
          simp only [joinC, List.length_append]
          omega
        refine hN _ _ s4 ?_
        have gz : (row.zip behind)[i]? = some (c1, c2) := List.getElem?_zip_eq_some.mpr ⟨gc1, gc2⟩
        rw [List.take_succ, gz, List.map_append]
        exact tpSnoc (o.tk (s3.trans s4).tk) t4
      · walk_at "xx"
        refine q D H2 ys (s1.trans s2) e2 ?_ (.inr (s1.free nD))
        have e3 : (rowStep row (some b) p behind).map cellD = ((row.zip behind).take row.length).map fun (p2 : Cell × Cell) => cellD (shorter p2.1 (joinC b p) p2.2) := by
          rw [List.take_of_length_le (by rw [List.length_zip]; omega)]
          unfold rowStep
          rw [List.map_map]
          rfl
        rw [e3]
        exact o
end
end K16
namespace K16
open PySem PySem.Spec PyProof.Rows L2 Wy WN WQ WS WC WE WO WT

-- WIDE
-- CUT System.tie
section
variable {P : Program} {w : World} {K : PySem.W.Frag} {mg : Str → Option Value} {base : Heap}
theorem k_System___init (T : Tx K mg) : C8.Mak P w K mg base 1 "System" (He.ga K "System") (spSysInit K) [] := by
  refine mak_of (N := n_System___init) T.d_System___init sc_System___init (fun _ _ F => F.bindsN fun _ _ _ _ _ _ us hl => match us, hl with | [_, _], _ => rfl) (fun vs H Q E h => ?_) (fun f cdv A outer s H vs Q E hr h => ?_)
  · obtain ⟨x, dx, n, rfl, _⟩ := h
    rfl
  · obtain ⟨x, dx, n, rfl, hx, hn, q⟩ := h
    refine ⟨_, (pss_cons (WO.ps_fldK (K := K) (pv 0) (pv 1)) (pss_cons (WO.ps_fldK (K := K) (pv 0) (pe_lst pa_nil)) (pss_one (WO.ps_fldK (K := K) (pv 0) (pe_lc (own := [("u", 2)]) (g := gName 2) (tt := tYes) (by rfl) sc_System___init.nd (pi_range1 (by rfl) T.z_range (pa_cons (pe_op op_add3 (pv 1) pe_int) pa_nil)) (blkOk_by (own := [("u", 2)]) (N := n_System___init) (sc := defScope s_System___init) (by decide +kernel)) (fun _ _ _ _ _ => pg_name (i := 2) sc_System___init.nd rfl (Or.inr rfl)) (fun _ _ _ _ _ => pts_nil) (fun _ _ _ _ _ => (pe_lc (own := [("v", 3)]) (g := gName 3) (tt := tYes) (by rfl) sc_System___init.nd (pi_range1 (by rfl) T.z_range (pa_cons (pe_op op_add3 (pv 1) pe_int) pa_nil)) (blkOk_by (own := [("v", 3)]) (N := n_System___init) (by kernel_rfl)) (fun _ _ _ _ _ => pg_name (i := 3) sc_System___init.nd rfl (Or.inl rfl)) (fun _ _ _ _ _ => pts_nil) (fun _ _ _ _ _ => (pe_ifExp (pt_cmpR (op_eq2 hr.units : OpR _ _ (rEq2 K)) (pv 3) (pv 2) (nomark _)) (pe_tup (pa_cons pe_int (pa_cons (pe_tup pa_nil) pa_nil))) pe_non))))))))), ?_⟩
    have cl := T.c_System
    have a1 := T.a_System_many
    have a2 := T.a_System_differences
    have a3 := T.a_System__table
    walk_at "xx"
    refine k_fldS hx cl a1 (Nat.lt_of_sub_eq_succ rfl) fun H1 c1 e1 => ?_
    have e1 : H1 x = some (.ins (He.ga K "System") dx [("many", .int n)]) := e1
    walk_at "xx"
    rename_i dl H2 n2 s2 e2
    refine k_fldS (s2 _ _ e1) cl a2 (Nat.lt_of_sub_eq_succ rfl) fun H3 c3 e3 => ?_
    have e3 : H3 x = some (.ins (He.ga K "System") dx [("many", .int n), ("differences", .ref dl)]) := e3
    have d3 : H3 dl = some (.lst []) := c3.at e2 (ne_of e2 (s2 _ _ e1) (by intro z; cases z))
    have nb : ∀ b, H3 b = none → H b = none := fun b hb => by
      cases hbb : H b with
      | none => rfl
      | some o =>
        by_cases q0 : b = x
        · subst q0
          rw [e3] at hb
          cases hb
        · have := c3.at (s2 _ _ (c1.at hbb q0)) q0
          rw [this] at hb
          cases hb
    walk_at "xx"
    refine c_it (n := n + 1) (Y := YFn fun i => .int ((0 : Int) + i)) (G := fun _ => True) (by have := walk_range (lo := 0) (n := n + 1); rw [show ((n : Int) + 1).toNat = n + 1 by omega]; exact this)
      (fun D i acc H4 => acc.length = i ∧ ∀ (j : Nat) (y : V), acc[j]? = some y → ∃ r, y = .ref r ∧ r ≠ D ∧ H3 r = none ∧ RowAt H4 r ((List.range (n + 1)).map fun v => if v = j then some (0, []) else none)) (fun _ _ => True.intro) (fun i H1 x H2 y => by rw [y.1]; exact Same.refl _) (small1000' (by omega))
      (fun D i acc H1 o => Nat.le_of_eq o.1) (fun D i acc H5 H6 c ⟨ys, e⟩ o => ⟨o.1, fun j y g => ?_⟩) (fun D H4 nD s e => ⟨rfl, fun j y g => by cases g⟩) (fun D i xx H4 H5 acc N M hi nD s4 eD o y s5 hN hM => ?_) (fun D H4 ys nD s4 e4 o => ?_)
    · obtain ⟨r, rfl, hr, hr0, cs, e2, t2⟩ := o.2 j y g
      exact ⟨r, rfl, hr, hr0, cs, c.at e2 hr, t2.tk (c.tk e)⟩
    · obtain ⟨rfl, rfl⟩ := y
      clear s5
      show gName 2 (.int ((0 : Int) + (i : Nat))) _ _ _
      rw [Int.zero_add]
      walk_at "xx"
      refine ⟨rfl, ?_⟩
      walk_at "xx"
      refine c_tps (fun v => cellD (if v = i then some (0, []) else none)) (fun j H6 N' hj s6 hN' => ?_) (by omega) (fun _ => rfl) fun D2 H6 cs nD2 s6 e6 t6 => ?_
      · rw [Int.zero_add]
        walk_at "xx"
        refine iteI (fun e => ?_) (fun e => ?_)
        · walk_at "xx"
          rename_i p7 H7 n7 s7 e7 p8 H8 n8 s8 e8
          refine hN' _ _ (by walk_at "sa") ?_
          rw [if_pos (by omega)]
          exact cellT (p := (0, [])) e8 (s8 _ _ e7)
        · walk_at "xx"
          refine hN' _ _ (Same.refl _) ?_
          rw [if_neg (by omega)]
          exact .non
      refine hN _ _ s6 ⟨by rw [List.length_append, o.1]; rfl, fun j y g => ?_⟩
      by_cases hj : j < acc.length
      · rw [List.getElem?_append_left hj] at g
        obtain ⟨r, rfl, hr, hr0, cs, e2, t2⟩ := o.2 j y g
        exact ⟨r, rfl, hr, hr0, cs, s6 _ _ e2, t2.tk s6.tk⟩
      · have hj2 := (List.getElem?_eq_some_iff.mp g).1
        rw [List.length_append, List.length_singleton] at hj2
        have : j = acc.length := by omega
        subst this
        rw [List.getElem?_append_right (Nat.le_refl _), Nat.sub_self] at g
        cases g
        refine ⟨D2, rfl, fun e => ?_, s4.free nD2, cs, e6, ?_⟩
        · subst e
          rw [eD] at nD2
          cases nD2
        · rw [List.map_map, o.1]
          rw [show ((n : Int) + 1).toNat = n + 1 by omega] at t6
          exact t6
    · have hx4 := s4 _ _ e3
      walk_at "xx"
      refine k_fldS hx4 cl a3 (Nat.lt_of_sub_eq_succ rfl) fun H5 c5 e5 => ?_
      obtain ⟨rs, rfl⟩ : ∃ rs : List Addr, ys = rs.map V.ref := by
        have : ∀ ys : List V, (∀ y ∈ ys, ∃ r, y = .ref r) → ∃ rs : List Addr, ys = rs.map V.ref := by
          intro ys
          induction ys with
          | nil => exact fun _ => ⟨[], rfl⟩
          | cons y r ih =>
            intro h
            obtain ⟨i, rfl⟩ := h y List.mem_cons_self
            obtain ⟨xs, rfl⟩ := ih fun z hz => h z (List.mem_cons_of_mem _ hz)
            exact ⟨i :: xs, rfl⟩
        exact this ys fun y hy => by
          obtain ⟨j, hj, e⟩ := List.getElem_of_mem hy
          obtain ⟨r, h, _⟩ := o.2 j y (by rw [List.getElem?_eq_getElem hj, e])
          exact ⟨r, h⟩
      have lr := o.1
      rw [List.length_map] at lr
      have rw_ : ∀ (i : Nat) (r : Addr), rs[i]? = some r → H3 r = none ∧ RowAt H4 r ((List.range (n + 1)).map fun v => if v = i then some (0, []) else none) := fun i r g => by
        obtain ⟨r', h, _, h3, h4⟩ := o.2 i (.ref r) (by rw [List.getElem?_map, g]; rfl)
        cases h
        exact ⟨h3, h4⟩
      refine q H5 ⟨dx, dl, D, rs⟩ (fun b ob nbx e => ?_) ?_ rfl ?_ (nb _ nD) (fun r hr => ?_)
      · have nbx : b ≠ x := fun e => nbx (by rw [e]; exact List.mem_singleton_self _)
        exact c5.at (s4 _ _ (c3.at (s2 _ _ (c1.at e nbx)) nbx)) nbx
      · have ne : ∀ (b : Addr) (xs : List V), H4 b = some (.lst xs) → b ≠ x := fun b xs e => ne_of e hx4 (by intro z; cases z)
        refine ⟨e5, ⟨[], c5.at (s4 _ _ d3) (ne _ _ (s4 _ _ d3)), .nil⟩, c5.at e4 (ne _ _ e4), by rw [(tab0_sq n).1]; exact lr, fun i r row g1 g2 => ?_, fun h => ?_, fun e => ?_, tab0_sq n⟩
        · obtain ⟨_, cs, e6, t6⟩ := rw_ i r g1
          have hi : i < rs.length := (List.getElem?_eq_some_iff.mp g1).1
          have er : row = (List.range (n + 1)).map fun v => if v = i then some (0, []) else none := by
            unfold tab0 at g2
            rw [List.getElem?_map, List.getElem?_range (by omega)] at g2
            exact (Option.some.inj g2).symm
          rw [er]
          exact ⟨cs, c5.at e6 (ne _ _ e6), t6.tk (fun a xs h => c5.at h (ne_of h hx4 (by intro z; cases z)))⟩
        · obtain ⟨i, hi, e⟩ := List.getElem_of_mem h
          have := (rw_ i _ (List.getElem?_eq_getElem hi)).1
          rw [e, d3] at this
          cases this
        · have e : dl = D := e
          rw [← e, d3] at nD
          cases nD
      · cases hb : H dl with
        | none => rfl
        | some o =>
          by_cases q0 : dl = x
          · rw [q0, e1] at n2
            cases n2
          · rw [c1.at hb q0] at n2
            cases n2
      · obtain ⟨i, hi, e⟩ := List.getElem_of_mem hr
        have := (rw_ i _ (List.getElem?_eq_getElem hi)).1
        rw [e] at this
        exact nb _ this
theorem k_System_bound (T : Tx K mg) : C8.Met P w K mg base 1 (He.ga K "System") "bound" (spBound K) [] := by
  refine met_of (N := n_System_bound) T.d_System_bound T.c_System sc_System_bound (fun _ _ F => F.bindsN fun _ _ _ _ _ _ us hl => match us, hl with | [_, _, _], _ => rfl) (fun vs H Q E h => ?_) (fun f cdv A outer s H vs Q E hr h => ?_)
  · obtain ⟨x, S, n, ds, M, u, v, rfl, _⟩ := h
    rfl
  · obtain ⟨x, S, n, ds, M, u, v, rfl, hs, u0, u1, v0, v1, q⟩ := h
    refine ⟨_, (pss_cons (ps_asg (pe_ix (ix_seq : IxR _ (rIx K)) (pe_ix (ix_seq : IxR _ (rIx K)) (WO.pe_fldK (K := K) (pv 0)) (pv 1) (fun _ _ => rfl)) (pv 2) (fun _ _ => rfl)) (pg_name (i := 3) sc_System_bound.nd rfl (Or.inl rfl))) (pss_one (ps_ret (pe_ifExp (pt_cmpR op_isN2 (pv 3) pe_non (nomark _)) pe_non (pe_ix (ix_seq : IxR _ (rIx K)) (pv 3) pe_int (fun _ _ => rfl)))))), ?_⟩
    have cl := T.c_System
    have a3 := T.a_System__table
    have hx := hs.ins
    obtain ⟨r, cs, g1, er, tr, lc⟩ := hs.get (u := u.toNat) (by omega)
    obtain ⟨y, g2, ty⟩ := row_cell hs.sq (u := u.toNat) (v := v.toNat) (by omega) (by omega) tr
    walk_at "xx"
    refine o_ixL (lst_of hs.tab) (atI_of (j := u.toNat) (by omega) (v := .ref r) (by rw [List.getElem?_map, g1]; rfl)) ?_
    walk_at "xx"
    refine o_ixL (lst_of er) (atI_of (j := v.toNat) (by omega) g2) ?_
    walk_at "xx"
    cases e : cell M u.toNat v.toNat with
    | none =>
      cases cellN ty e
      walk_at "xx"
      unfold bd at q
      rw [e] at q
      exact q
    | some p =>
      obtain ⟨c1, c2, rfl, e1, e2⟩ := cellS ty e
      unfold bd at q
      rw [e] at q
      walk_at "xx"
      exact q
theorem k_System__bring_in (T : Tx K mg) : C8.Met P w K mg base 4 (He.ga K "System") "_bring_in" (spBring K) [] := by
  refine met_of (N := n_System__bring_in) T.d_System__bring_in T.c_System sc_System__bring_in (fun _ _ F => F.bindsN fun _ _ _ _ _ _ us hl => match us, hl with | [_, _, _, _], _ => rfl) (fun vs H Q E h => ?_) (fun f cdv A outer s H vs Q E hr h => ?_)
  · obtain ⟨x, st, S, n, ds, M, u, v, p, L, rfl, _⟩ := h
    rfl
  · obtain ⟨x, st, S, n, ds, M, u, v, p, L, rfl, hs, ts, u0, u1, v0, v1, hn, hsh, hL, q⟩ := h
    refine ⟨_, (pss_cons (ps_asg (pe_ix (ix_seq : IxR _ (rIx K)) (WO.pe_fldK (K := K) (pv 0)) (pv 2) (fun _ _ => rfl)) (pg_name (i := 4) sc_System__bring_in.nd rfl (Or.inr rfl))) (pss_one (WO.ps_fldK (K := K) (pv 0) (pe_lc (own := [("known", 5)]) (g := gName 5) (tt := tYes) (by rfl) sc_System__bring_in.nd (pi_list (WO.pe_fldK (K := K) (pv 0)) : PI _ _ _ (iList K _)) (blkOk_by (own := [("known", 5)]) (N := n_System__bring_in) (sc := defScope s_System__bring_in) (by decide +kernel)) (fun _ _ _ _ _ => pg_name (i := 5) sc_System__bring_in.nd rfl (Or.inl rfl)) (fun _ _ _ _ _ => pts_nil) (fun _ _ _ _ _ => (C8.pe_c (k_row_with_step T) hr (by first | decide | omega) (by rfl) (pa_cons (pv 5) (pa_cons (pe_ix (ix_seq : IxR _ (rIx K)) (pv 5) (pv 1) (fun _ _ => rfl)) (pa_cons (pv 3) (pa_cons (pv 4) pa_nil)))))))))), ?_⟩
    have cl := T.c_System
    have a3 := T.a_System__table
    have hx := hs.ins
    obtain ⟨r, ks, g1, ek, tk, lk⟩ := hs.get (u := v.toNat) (by omega)
    have lrs : S.rs.length = n + 1 := by rw [hs.len, hs.sq.1]
    walk_at "xx"
    refine o_ixL (lst_of hs.tab) (atI_of (j := v.toNat) (by omega) (v := .ref r) (by rw [List.getElem?_map, g1]; rfl)) ?_
    walk_at "xx"
    refine k_l (lst_of hs.tab) ?_
    refine c_it (walk_list (K := K) (a := S.tp) (xs := S.rs.map V.ref))
      (fun D i acc H4 => acc.length = i ∧ ∀ (j : Nat) (y : V), acc[j]? = some y → ∃ r, y = .ref r ∧ r ≠ D ∧ (r ∈ S.rs ∨ H r = none) ∧ ∀ row, (bring M u.toNat v.toNat p)[j]? = some row → RowAt H4 r row) (fun H' s' => lst_of (s' _ _ hs.tab)) (fun i H1 x H2 y => yat_same y) (small1000' (by rw [List.length_map]; omega))
      (fun D i acc H1 o => Nat.le_of_eq o.1) (fun D i acc H5 H6 c ⟨ys, e⟩ o => ⟨o.1, fun j y g => ?_⟩) (fun D H4 nD s e => ⟨rfl, fun j y g => by cases g⟩) (fun D i xx H4 H5 acc N M' hi nD s4 eD o y s5 hN hM => ?_) (fun D H4 ys nD s4 e4 o => ?_)
    · obtain ⟨r, rfl, hr, hr0, f⟩ := o.2 j y g
      refine ⟨r, rfl, hr, hr0, fun row hrow => ?_⟩
      obtain ⟨cs, e2, t2⟩ := f row hrow
      exact ⟨cs, c.at e2 hr, t2.tk (c.tk e)⟩
    · obtain ⟨rfl, gx⟩ := y
      clear s5
      rw [List.length_map] at hi
      rw [List.getElem?_map, List.getElem?_eq_getElem hi] at gx
      cases gx
      have gm : M[i]? = some (M.getD i []) := row_of hs.sq (by omega)
      have gb : (bring M u.toNat v.toNat p)[i]? = some (rowStep (M.getD i []) ((M.getD i []).getD u.toNat none) p (M.getD v.toNat [])) := by
        unfold bring
        rw [List.getElem?_map, gm]
        rfl
      obtain ⟨cs, e1, t1⟩ := hs.rows i S.rs[i] _ (List.getElem?_eq_getElem hi) gm
      have l1 := hs.sq.2 _ (List.mem_of_getElem? gm)
      have lcs := t1.length
      rw [List.length_map] at lcs
      obtain ⟨y, g2, ty⟩ := row_cell hs.sq (u := i) (v := u.toNat) (by omega) (by omega) t1
      have mV := List.mem_of_getElem? (row_of hs.sq (i := v.toNat) (by omega))
      walk_at "xx"
      refine ⟨rfl, ?_⟩
      walk_at "xx"
      refine o_ixL (lst_of (s4 _ _ e1)) (atI_of (j := u.toNat) (by omega) g2) ?_
      walk_at "xx"
      refine ⟨S.rs[i], r, y, .ref st, cs, ks, M.getD i [], M.getD v.toNat [], (M.getD i []).getD u.toNat none, p, L, rfl, s4 _ _ e1, t1.tk s4.tk, ?_, ts.tk s4.tk, s4 _ _ ek, tk.tk s4.tk, by rw [l1, hs.sq.2 _ mV], by omega, fun c hc => ?_, fun c hc => hsh _ mV c hc, hL, fun q' H6 cs' s6 e6 t6 hq' => ?_⟩
      · exact ty.tk s4.tk
      · refine hsh _ (List.mem_of_getElem? gm) c ?_
        rw [← hc, List.getD_eq_getElem?_getD (l := M.getD i []), List.getElem?_eq_getElem (by omega)]
        exact List.getElem_mem _
      · refine hN _ _ s6 ⟨by rw [List.length_append, o.1]; rfl, fun j y g => ?_⟩
        by_cases hj : j < acc.length
        · rw [List.getElem?_append_left hj] at g
          obtain ⟨r, rfl, hr, hr0, f⟩ := o.2 j y g
          refine ⟨r, rfl, hr, hr0, fun row hrow => ?_⟩
          obtain ⟨cs, e2, t2⟩ := f row hrow
          exact ⟨cs, s6 _ _ e2, t2.tk s6.tk⟩
        · have hj2 := (List.getElem?_eq_some_iff.mp g).1
          rw [List.length_append, List.length_singleton] at hj2
          have : j = acc.length := by omega
          subst this
          rw [List.getElem?_append_right (Nat.le_refl _), Nat.sub_self] at g
          cases g
          refine ⟨q', rfl, fun e => ?_, ?_, fun row hrow => ?_⟩
          · subst e
            rcases hq' with h | h
            · rw [h, e1] at nD
              cases nD
            · rw [eD] at h
              cases h
          · rcases hq' with h | h
            · rw [h]
              exact .inl (List.getElem_mem hi)
            · exact .inr (s4.free h)
          · rw [o.1, gb] at hrow
            cases hrow
            exact ⟨cs', e6, t6⟩
    · have hx4 := s4 _ _ hx
      rw [List.length_map] at o
      walk_at "xx"
      refine k_fldS hx4 cl a3 (Nat.lt_of_sub_eq_succ rfl) fun H5 c5 e5 => ?_
      have e5 : H5 x = some (.ins (He.ga K "System") S.dx (sysFs ⟨S.dx, S.dl, D, []⟩ n)) := e5
      obtain ⟨rs, rfl⟩ := refs_of fun j y g => by
        obtain ⟨r, h, _⟩ := o.2 j y g
        exact ⟨r, h⟩
      have lr := o.1
      rw [List.length_map, lrs] at lr
      have fact : ∀ (i : Nat) (r : Addr), rs[i]? = some r → (r ∈ S.rs ∨ H r = none) ∧ ∀ row, (bring M u.toNat v.toNat p)[i]? = some row → RowAt H4 r row := fun i r g => by
        obtain ⟨r', h, _, h3, h4⟩ := o.2 i (.ref r) (by rw [List.getElem?_map, g]; rfl)
        cases h
        exact ⟨h3, h4⟩
      have ne : ∀ (b : Addr) (xs : List V), H4 b = some (.lst xs) → b ≠ x := fun b xs e => ne_of e hx4 (by intro z; cases z)
      have k5 : TK H4 H5 := fun a xs h => c5.at h (ne_of h hx4 (by intro z; cases z))
      obtain ⟨us, d1, d2⟩ := hs.diffs
      have hall : ∀ r ∈ rs, r ∈ S.rs ∨ H r = none := fun r hr => by
        obtain ⟨i, hi, e⟩ := List.getElem_of_mem hr
        have := (fact i _ (List.getElem?_eq_getElem hi)).1
        rwa [e] at this
      refine q H5 ⟨S.dx, S.dl, D, rs⟩ (fun b ob nbx e => c5.at (s4 _ _ e) (fun e => nbx (by rw [e]; exact List.mem_singleton_self _))) ?_ rfl rfl nD hall
      refine ⟨e5, ⟨us, c5.at (s4 _ _ d1) (ne _ _ (s4 _ _ d1)), d2.tk (s4.tk.trans k5)⟩, c5.at e4 (ne _ _ e4), by rw [(bring_sq hs.sq (by omega)).1]; exact lr, fun i r row g1 g2 => ?_, fun h => ?_, fun e => ?_, bring_sq hs.sq (by omega)⟩
      · obtain ⟨cs, e6, t6⟩ := (fact i r g1).2 row g2
        exact ⟨cs, c5.at e6 (ne _ _ e6), t6.tk k5⟩
      · rcases hall _ h with h | h
        · exact hs.ap1 h
        · have h : H S.dl = none := h
          rw [d1] at h
          cases h
      · have e : S.dl = D := e
        rw [← e, d1] at nD
        cases nD
theorem k_System_tie (T : Tx K mg) : C8.Met P w K mg base 5 (He.ga K "System") "tie" (spTie K) [] := by
  refine met_of (N := n_System_tie) T.d_System_tie T.c_System sc_System_tie (fun _ _ F => F.bindsN fun _ _ _ _ _ _ us hl => match us, hl with | [_, _], _ => rfl) (fun vs H Q E h => ?_) (fun f cdv A outer s H vs Q E hr h => ?_)
  · obtain ⟨x, d, S, n, ds, M, df, L, rfl, _⟩ := h
    rfl
  · obtain ⟨x, d, S, n, ds, M, df, L, rfl, hs, td, hin, hd, hn, hsh, hL, qr, qn⟩ := h
    refine ⟨_, (pss_cons (ps_asg (pv 1) (pg_tup (by rfl) (pgs_cons (pg_name (i := 2) sc_System_tie.nd rfl (Or.inl rfl)) (pgs_cons (pg_name (i := 3) sc_System_tie.nd rfl (Or.inl rfl)) (pgs_cons (pg_name (i := 4) sc_System_tie.nd rfl (Or.inl rfl)) pgs_nil))) : PG _ _ (gTup K _ _))) (pss_cons (ps_asg (pe_callB (call_len2 : CallR _ _ (rLn K)) (by rfl) T.z_len (by decide +kernel) (pa_cons (WO.pe_fldK (K := K) (pv 0)) pa_nil)) (pg_name (i := 5) sc_System_tie.nd rfl (Or.inl rfl))) (pss_cons (ps_expr (pe_bm PySem.F.plainAttrs_list PySem.F.slot_list_append PySem.F.type_list_append mt_append (WO.pe_fldK (K := K) (pv 0)) (pa_cons (pv 1) pa_nil) : PE _ _ (tBM K _ _ _ _))) (pss_cons (ps_asg (pe_ix (ix_seq : IxR _ (rIx K)) (pe_ix (ix_seq : IxR _ (rIx K)) (WO.pe_fldK (K := K) (pv 0)) (pv 3) (fun _ _ => rfl)) (pv 2) (fun _ _ => rfl)) (pg_name (i := 6) sc_System_tie.nd rfl (Or.inl rfl))) (C8.pss_cut (ps_if (PW.pt (pw_and (pt_cmpR op_ntN2 (pv 6) pe_non (nomark _)) (pw_and1 (pt_cmpR op_lt (pe_op op_add3 (pv 4) (pe_ix (ix_seq : IxR _ (rIx K)) (pv 6) pe_int (fun _ _ => rfl))) pe_int (nomark _))))) (pss_one (ps_ret (pe_tup (pa_cons (pv 5) (pa_star (pe_ix (ix_seq : IxR _ (rIx K)) (pv 6) pe_int (fun _ _ => rfl)) pa_nil : PA _ _ (tStar K _ _)))))) pss_nil) (pss_cons (ps_asg (pe_ix (ix_seq : IxR _ (rIx K)) (pe_ix (ix_seq : IxR _ (rIx K)) (WO.pe_fldK (K := K) (pv 0)) (pv 2) (fun _ _ => rfl)) (pv 3) (fun _ _ => rfl)) (pg_name (i := 7) sc_System_tie.nd rfl (Or.inl rfl))) (C8.pss_cut (ps_if (PW.pt (pw_or (pt_cmpR op_isN2 (pv 7) pe_non (nomark _)) (pw_or1 (pt_cmpR op_lt (pv 4) (pe_ix (ix_seq : IxR _ (rIx K)) (pv 7) pe_int (fun _ _ => rfl)) (nomark _))))) (pss_one (ps_expr (C8.pe_mt (k_System__bring_in (K := K) T) hr (by first | decide | omega) (pv 0) (pa_cons (pv 2) (pa_cons (pv 3) (pa_cons (pe_tup (pa_cons (pv 4) (pa_cons (pe_tup (pa_cons (pv 5) pa_nil)) pa_nil))) pa_nil)))))) pss_nil) (pss_one (ps_ret pe_non))))))))), ?_⟩
    have cl := T.c_System
    have a2 := T.a_System_differences
    have a3 := T.a_System__table
    have hx := hs.ins
    obtain ⟨us, d1, d2⟩ := hs.diffs
    have lus := d2.length
    rw [List.length_map] at lus
    obtain ⟨da, _, _, _, rfl, ed, t1, t2, t3⟩ := WQ.tp3 td
    cases t1
    cases t2
    cases t3
    obtain ⟨i0, i1, i2, i3⟩ := id hin
    have lrs : S.rs.length = n + 1 := by rw [hs.len, hs.sq.1]
    walk_at "xx"
    refine b_lenL (lst_of d1) ?_
    rw [lus]
    walk_at "xx"
    refine m_ty (lst_of d1) ?_
    walk_at "xx"
    refine m_app d1 (small1000' (by omega)) fun H1 c1 e1 => ?_
    have nx : x ≠ S.dl := ne_of hx d1 (by intro z; cases z)
    have k1 : TK H H1 := c1.tk d1
    have hx1 := c1.at hx nx
    have et1 := c1.at hs.tab (Ne.symm hs.ap2)
    have ed1 := c1.at ed (ne_of ed d1 (by intro z; cases z))
    have hs1 : SysAt K H1 x S n (ds ++ [df]) M := ⟨hx1, ⟨_, e1, by rw [List.map_append]; exact tpSnoc (d2.tk k1) (.tup ed1 (by walk_at "tp"))⟩, et1, hs.len, fun i r row g1 g2 => by
      obtain ⟨cs, e2, t2⟩ := hs.rows i r row g1 g2
      exact ⟨cs, c1.at e2 (fun e => hs.ap1 (e ▸ List.mem_of_getElem? g1)), t2.tk k1⟩, hs.ap1, hs.ap2, hs.sq⟩
    obtain ⟨rv, cv, g1, ev, tv, lcv⟩ := hs1.get (u := df.2.1.toNat) (by omega)
    obtain ⟨yb, g2, tb⟩ := row_cell hs.sq (u := df.2.1.toNat) (v := df.1.toNat) (by omega) (by omega) tv
    walk_at "xx"
    refine o_ixL (lst_of et1) (atI_of (j := df.2.1.toNat) (by omega) (v := .ref rv) (by rw [List.getElem?_map, g1]; rfl)) ?_
    walk_at "xx"
    refine o_ixL (lst_of ev) (atI_of (j := df.1.toNat) (by omega) g2) ?_
    walk_at "xx"
    refine s_cut (fun σ' H' => σ' = [some (.ref x), some (.ref da), some (.int df.1), some (.int df.2.1), some (.int df.2.2), some (.int ds.length), some (yb), none] ∧ H' = H1 ∧ ringOf M df = none) ?_ (fun σ' H' p => ?_)
    · walk_at "xx"
      cases e : cell M df.2.1.toNat df.1.toNat with
      | none =>
        cases cellN tb e
        walk_at "xx"
        refine ⟨rfl, rfl, ?_⟩
        unfold ringOf
        rw [e]
      | some p =>
        obtain ⟨c1', c2', rfl, ec1, ec2⟩ := cellS tb e
        walk_at "xx"
        refine iteD (fun e2 => ?_) (fun e2 => ?_)
        · walk_at "xx"
          refine k_st (.inr (tup_of ec2)) ?_
          walk_at "xx"
          have lp : p.2.length ≤ L := by
            obtain ⟨row, h1, h2⟩ := cell_at hs.sq (i := df.2.1.toNat) (j := df.1.toNat) (by omega) (by omega)
            rw [e] at h2
            exact hsh _ (List.mem_of_getElem? h1) p (List.mem_of_getElem? h2)
          have hz : sizeLine = 16777216 := sizeLine_eq
          refine n_obj (by simp only [List.length_cons, List.length_append, List.length_map, List.length_nil]; omega) fun rp H2 n2 s2 e3 => ?_
          refine qr p.2 ?_ rp H2 ((Chg.but c1 (by simp)).trans (Same.but s2)) ?_ (by rw [e3, List.append_nil]; rfl)
          · unfold ringOf
            rw [e]
            exact if_pos e2
          · cases hb : H rp with
            | none => rfl
            | some o =>
              by_cases q0 : rp = S.dl
              · rw [q0, e1] at n2
                cases n2
              · rw [c1.at hb q0] at n2
                cases n2
        · walk_at "xx"
          refine ⟨rfl, rfl, ?_⟩
          unfold ringOf
          rw [e]
          exact if_neg e2
    obtain ⟨rfl, rfl, hrn⟩ := p
    have qn := qn hrn
    clear qr tb g2 tv ev g1
    obtain ⟨ru, cu, g1, ev, tv, lcu⟩ := hs1.get (u := df.1.toNat) (by omega)
    obtain ⟨yh, g2, th⟩ := row_cell hs.sq (u := df.1.toNat) (v := df.2.1.toNat) (by omega) (by omega) tv
    walk_at "xx"
    refine o_ixL (lst_of et1) (atI_of (j := df.1.toNat) (by omega) (v := .ref ru) (by rw [List.getElem?_map, g1]; rfl)) ?_
    walk_at "xx"
    refine o_ixL (lst_of ev) (atI_of (j := df.2.1.toNat) (by omega) g2) ?_
    walk_at "xx"
    have keep0 : KeepBut [x, S.dl] H H' := Chg.but c1 (by simp)
    have back0 : ∀ b, H' b = none → H b = none := fun b hb => by
      cases hbb : H b with
      | none => rfl
      | some o =>
        by_cases q0 : b = S.dl
        · rw [q0, e1] at hb
          cases hb
        · rw [c1.at hbb q0] at hb
          cases hb
    have bringIt : ∀ (N : VK) (st : Addr) (H2 : Hp), Same H' H2 → Tp H2 (.ref st) (cellD (some (df.2.2, [(ds.length : Int)]))) → tieM M df ds.length = bring M df.1.toNat df.2.1.toNat (df.2.2, [(ds.length : Int)]) → (∀ v H3, Q .non H3 → N v H3) → spBring K [.ref x, .int df.1, .int df.2.1, .ref st] H2 N C8.E0 := fun N st H2 s2 t2 em hN =>
      ⟨x, st, S, n, ds ++ [df], M, df.1, df.2.1, _, L, rfl, hs1.same s2, t2, i0, i1, i2, i3, hn, hsh, by show 2 * L + 1 ≤ _; exact hL, fun H3 S' k3 s3 x1 x2 x3 x4 => hN _ _ (qn H3 S' (keep0.trans ((Same.but s2).trans (k3.mono (by simp)))) (em ▸ s3) x1 x2 (.inr (back0 _ (s2.free x3))) fun r hr => (x4 r hr).imp id fun h => back0 _ (s2.free h))⟩
    have idle : tieM M df ds.length = M → Q .non H' := fun em => qn H' S keep0 (by rw [em]; exact hs1) rfl rfl (.inl rfl) fun r hr => .inl hr
    refine s_cut (fun _ H' => Q .non H') ?_ (fun σ2 H2 p => ?_)
    · walk_at "xx"
      cases e : cell M df.1.toNat df.2.1.toNat with
      | none =>
        cases cellN th e
        walk_at "xx"
        rename_i p1 H2 n2 s2 e2 p2 H3 n3 s3 e3
        refine bringIt _ p2 H3 (s2.trans s3) (cellT e3 (s3 _ _ e2)) ?_ fun v H4 h => ?_
        · unfold tieM
          rw [e]
        · walk_at "xx"
          exact h
      | some p =>
        obtain ⟨c1', c2', rfl, ec1, ec2⟩ := cellS th e
        walk_at "xx"
        refine iteD (fun e2 => ?_) (fun e2 => ?_)
        · walk_at "xx"
          rename_i p1 H2 n2 s2 e2' p2 H3 n3 s3 e3
          refine bringIt _ p2 H3 (s2.trans s3) (cellT e3 (s3 _ _ e2')) ?_ fun v H4 h => ?_
          · unfold tieM
            rw [e]
            exact if_pos e2
          · walk_at "xx"
            exact h
        · walk_at "xx"
          refine idle ?_
          unfold tieM
          rw [e]
          exact if_neg e2
    · walk_at "xx"
      exact p
end
end K16
namespace K16
open PySem PySem.Spec PyProof.Rows L2 Wy WN WQ WS WC WE WT

-- WIDE
section
variable {P : Program} {w : World} {K : PySem.W.Frag} {mg : Str → Option Value} {base : Heap}
theorem k_law_raised (T : Tx K mg) : C8.Cal P w K mg base 3 "_law_raised" (spRaised K) [] := by
  refine cal_of (N := n_law_raised) T.d_law_raised sc_law_raised (fun _ _ F => F.bindsN fun _ _ _ _ _ _ us hl => match us, hl with | [_, _, _], _ => rfl) (fun vs H Q E h => ?_) (fun f cdv A outer s H vs Q E hr h => ?_)
  · obtain ⟨a, b, e, zs, us, ds, vals, rfl, _⟩ := h
    rfl
  · obtain ⟨a, b, e, zs, us, ds, vals, rfl, hA, hB, tB, hE, hin, hd, hv, q⟩ := h
    refine ⟨_, (pss_cons (ps_asg (C8.pe_c (k_law_draws T) hr (by first | decide | omega) (by rfl) (pa_cons (pv 0) (pa_cons pe_int (pa_cons (pe_lc (own := [("k", 3)]) (g := gName 3) (tt := tYes) (by rfl) sc_law_raised.nd (pi_range1 (by rfl) T.z_range (pa_cons (pe_op op_add3 (pe_callB (call_len2 : CallR _ _ (rLn K)) (by rfl) T.z_len (by decide +kernel) (pa_cons (pv 1) pa_nil)) pe_int) pa_nil)) (blkOk_by (own := [("k", 3)]) (N := n_law_raised) (sc := defScope s_law_raised) (by decide +kernel)) (fun _ _ _ _ _ => pg_name (i := 3) sc_law_raised.nd rfl (Or.inl rfl)) (fun _ _ _ _ _ => pts_nil) (fun _ _ _ _ _ => pe_int)) pa_nil)))) (pg_name (i := 4) sc_law_raised.nd rfl (Or.inl rfl))) (pss_cons (ps_asg (pe_op op_add3 (pe_lst (pa_cons pe_int pa_nil)) (pv 2)) (pg_name (i := 5) sc_law_raised.nd rfl (Or.inl rfl))) (pss_cons (ps_asg (pe_lst pa_nil) (pg_name (i := 6) sc_law_raised.nd rfl (Or.inl rfl))) (pss_cons (ps_for PassesOwn.never rfl (pi_range1 (by rfl) T.z_range (pa_cons (pe_callB (call_len2 : CallR _ _ (rLn K)) (by rfl) T.z_len (by decide +kernel) (pa_cons (pv 1) pa_nil)) pa_nil)) (pg_name (i := 3) sc_law_raised.nd rfl (Or.inl rfl)) (pss_cons (ps_asg (pe_ix (ix_seq : IxR _ (rIx K)) (pv 1) (pv 3) (fun _ _ => rfl)) (pg_tup (by rfl) (pgs_cons (pg_name (i := 7) sc_law_raised.nd rfl (Or.inl rfl)) (pgs_cons (pg_name (i := 8) sc_law_raised.nd rfl (Or.inl rfl)) (pgs_cons (pg_name (i := 9) sc_law_raised.nd rfl (Or.inl rfl)) pgs_nil))) : PG _ _ (gTup K _ _))) (pss_one (ps_expr (pe_bm PySem.F.plainAttrs_list PySem.F.slot_list_append PySem.F.type_list_append mt_append (pv 6) (pa_cons (pe_tup (pa_cons (pv 7) (pa_cons (pv 8) (pa_cons (pe_op op_add3 (pe_callC cc_max (by rfl) T.z_max (by decide +kernel) (pa_cons (pe_callTy call_int2 (by rfl) T.z_int (by decide +kernel) (pa_cons (pv 9) pa_nil)) (pa_cons (pe_callTy call_int2 (by rfl) T.z_int (by decide +kernel) (pa_cons (pe_op op_sub (pe_ix (ix_seq : IxR _ (rIx K)) (pv 5) (pv 7) (fun _ _ => rfl)) (pe_ix (ix_seq : IxR _ (rIx K)) (pv 5) (pv 8) (fun _ _ => rfl))) pa_nil)) pa_nil))) (pe_op op_fdivW (pe_ix (ix_seq : IxR _ (rIx K)) (pv 4) (pv 3) (fun _ _ => rfl)) pe_int)) pa_nil)))) pa_nil) : PE _ _ (tBM K _ _ _ _)))))) (pss_one (ps_ret (pv 6))))))), ?_⟩
    have lu := tB.length
    rw [List.length_map] at lu
    walk_at "xx"
    refine b_lenL (lst_of hB) ?_
    rw [lu]
    walk_at "xx"
    refine c_constI (c := 4) (fun _ _ _ h => ?_) (by omega) (fun _ => rfl) fun D H1 nD s1 e1 => ?_
    · walk_at "xx"
      exact h
    walk_at "xx"
    refine ⟨a, D, zs, _, _, rfl, s1.seq hA, lst_of e1, ⟨by rw [List.length_replicate]; omega, fun s hs => by rw [(List.mem_replicate.mp hs).2]; decide⟩, fun dp H2 dr s2 n2 e2 hdr => ?_⟩
    have ld := hdr.len
    rw [List.length_replicate] at ld
    have S2 := s1.trans s2
    walk_at "xx"
    rename_i zp H3 n3 s3 e3
    refine o_addL (by walk_at "hp") (s3 _ _ (S2 _ _ hE)) (by rw [List.length_map]; exact lz (by show 1 + _ ≤ _; omega)) fun lp H4 n4 s4 e4 => ?_
    have e4 : H4 lp = some (.lst ((0 :: vals).map V.int)) := e4
    walk_at "xx"
    rename_i rp H5 n5 s5 e5
    have S5 : Same H H5 := S2.trans (s3.trans (s4.trans s5))
    have nR : H rp = none := (S2.trans (s3.trans s4)).free n5
    refine b_lenL (lst_of (S5 _ _ hB)) ?_
    rw [lu]
    walk_at "xx"
    refine f_range (fun i σ H' => ∃ z3 z7 z8 z9 us' ds', σ = [some (.ref a), some (.ref b), some (.ref e), z3, some (.ref dp), some (.ref lp), some (.ref rp), z7, z8, z9] ∧ Same H4 H' ∧ H' rp = some (.lst us') ∧ TpAll H' us' ((ds' : List Df).map dfD) ∧ ds'.length = i ∧ ∀ d ∈ ds', InR vals.length d)
      ⟨_, _, _, _, _, [], rfl, s5, e5, .nil, rfl, fun _ h => by cases h⟩ (fun i σ H6 hi p => ?_) (fun σ H6 p => ?_)
    · obtain ⟨z3, z7, z8, z9, us', ds', rfl, s6, e6, t6, l6, r6⟩ := p
      have hi : i < ds.length := by omega
      have lus := t6.length
      rw [List.length_map] at lus
      have S6 : Same H H6 := (S2.trans (s3.trans s4)).trans s6
      obtain ⟨u, gu, tu⟩ := tpAt (tB.tk S6.tk) (List.getElem?_eq_getElem hi)
      obtain ⟨p1, _, _, _, rfl, ep, t1, t2, t3⟩ := WQ.tp3 tu
      cases t1
      cases t2
      cases t3
      obtain ⟨i0, i1, i2, i3⟩ := hin _ (List.getElem_mem hi)
      have gd : dr[i]? = some dr[i] := List.getElem?_eq_getElem (by omega)
      rw [Int.zero_add]
      walk_at "xx"
      refine o_ixL (lst_of (S6 _ _ hB)) (atI_nat gu) ?_
      walk_at "xx"
      refine m_ty (lst_of e6) ?_
      walk_at "xx"
      refine ix_lv (lst_of (s6 _ _ e4)) i0 (by omega) ?_
      walk_at "xx"
      refine ix_lv (lst_of (s6 _ _ e4)) i2 (by omega) ?_
      walk_at "xx"
      refine ix_int (lst_of (((s3.trans s4).trans s6) _ _ e2)) (by omega) (by omega) fun x gx => ?_
      walk_at "xx"
      rename_i tp H7 n7 s7 e7
      refine m_app (s7 _ _ e6) (small1000 (by omega)) fun H8 c8 e8 => ?_
      have k8 : TK H6 H8 := s7.tk.trans (c8.tk (s7 _ _ e6))
      walk_at "xx"
      refine ⟨_, _, _, _, us' ++ [.ref tp], ds' ++ [(ds[i].1, ds[i].2.1, max ds[i].2.2 (lv vals ds[i].1 - lv vals ds[i].2.1) + x / 2)], rfl, c8.same (s6.trans s7) n5, e8, ?_, by rw [List.length_append, l6]; rfl, fun d hd => ?_⟩
      · rw [List.map_append]
        exact tpSnoc (t6.tk k8) (Tp.tk (c8.tk (s7 _ _ e6)) (.tup e7 (by walk_at "tp")))
      · rcases List.mem_append.mp hd with hd | hd
        · exact r6 d hd
        · rw [List.mem_singleton.mp hd]
          exact ⟨i0, i1, i2, i3⟩
    · obtain ⟨z3, z7, z8, z9, us', ds', rfl, s6, e6, t6, l6, r6⟩ := p
      walk_at "xx"
      exact q _ _ _ ds' ((S2.trans (s3.trans s4)).trans s6) nR e6 t6 (by omega) r6
end
end K16
namespace K16
open PySem PySem.Spec PyProof.Rows L2 Wy WN WQ WS WC WE WO WT

-- WIDE
section
variable {P : Program} {w : World} {K : PySem.W.Frag} {mg : Str → Option Value} {base : Heap}
theorem oI_some {x : Int} : oI (some x) = V.int x := rfl
theorem oI_none : oI none = V.non := rfl
theorem oI_N {H : Hp} {Q : VK} {K : PySem.W.Frag} {o : Option Int} {QT : Bool → Hp → Prop} (h1 : o = none → QT true H) (h2 : ∀ i, o = some i → QT false H) : Wy.KBl (.bl (decide (oI o = V.non))) H QT := by
  cases o with
  | none => exact k_bl (h1 rfl)
  | some i => exact k_bl (h2 i rfl)
theorem k_law_joined (T : Tx K mg) : C8.Cal P w K mg base 1 "_law_joined" spJoinM [] := by
  refine cal_of (N := n_law_joined) T.d_law_joined sc_law_joined (fun _ _ F => F.bindsN fun _ _ _ _ _ _ us hl => match us, hl with | [_, _], _ => rfl) (fun vs H Q E h => ?_) (fun f cdv A outer s H vs Q E hr h => ?_)
  · obtain ⟨a, d, rs, n, B, df, rfl, _⟩ := h
    rfl
  · obtain ⟨a, d, rs, n, B, df, rfl, hm, td, hin, hn, q⟩ := h
    refine ⟨_, (pss_cons (ps_asg (pv 1) (pg_tup (by rfl) (pgs_cons (pg_name (i := 2) sc_law_joined.nd rfl (Or.inl rfl)) (pgs_cons (pg_name (i := 3) sc_law_joined.nd rfl (Or.inl rfl)) (pgs_cons (pg_name (i := 4) sc_law_joined.nd rfl (Or.inl rfl)) pgs_nil))) : PG _ _ (gTup K _ _))) (pss_cons (ps_setLc (i := 5) (own := [("row", 9)]) (g := gName 9) (tt := tYes) (by rfl) sc_law_joined.nd rfl rfl (sw_true rfl rfl rfl (by decide +kernel)) (pi_list (pv 0) : PI _ _ _ (iList K _)) (blkOk_by (own := [("row", 9)]) (N := n_law_joined) (sc := defScope s_law_joined) (by decide +kernel)) (fun _ _ _ _ _ => pg_name (i := 9) sc_law_joined.nd rfl (Or.inl rfl)) (fun _ _ _ _ _ => pts_nil) (fun _ _ _ _ _ => (pe_callTy (call_lst : CallR _ _ (rLst K)) (by rfl) T.z_list (by decide +kernel) (pa_cons (pv 9) pa_nil)))) (pss_cons (ps_for PassesOwn.never rfl (pi_range1 (by rfl) T.z_range (pa_cons (pe_callB (call_len2 : CallR _ _ (rLn K)) (by rfl) T.z_len (by decide +kernel) (pa_cons (pv 0) pa_nil)) pa_nil)) (pg_name (i := 6) sc_law_joined.nd rfl (Or.inl rfl)) (pss_one (ps_for PassesOwn.never rfl (pi_range1 (by rfl) T.z_range (pa_cons (pe_callB (call_len2 : CallR _ _ (rLn K)) (by rfl) T.z_len (by decide +kernel) (pa_cons (pv 0) pa_nil)) pa_nil)) (pg_name (i := 7) sc_law_joined.nd rfl (Or.inl rfl)) (pss_one (ps_if (PW.pt (pw_and (pt_cmpR op_ntN2 (pe_ix (ix_seq : IxR _ (rIx K)) (pe_ix (ix_seq : IxR _ (rIx K)) (pv 0) (pv 6) (fun _ _ => rfl)) (pv 2) (fun _ _ => rfl)) pe_non (nomark _)) (pw_and1 (pt_cmpR op_ntN2 (pe_ix (ix_seq : IxR _ (rIx K)) (pe_ix (ix_seq : IxR _ (rIx K)) (pv 0) (pv 3) (fun _ _ => rfl)) (pv 7) (fun _ _ => rfl)) pe_non (nomark _))))) (pss_cons (ps_asg (pe_op op_add3 (pe_op op_add3 (pe_ix (ix_seq : IxR _ (rIx K)) (pe_ix (ix_seq : IxR _ (rIx K)) (pv 0) (pv 6) (fun _ _ => rfl)) (pv 2) (fun _ _ => rfl)) (pv 4)) (pe_ix (ix_seq : IxR _ (rIx K)) (pe_ix (ix_seq : IxR _ (rIx K)) (pv 0) (pv 3) (fun _ _ => rfl)) (pv 7) (fun _ _ => rfl))) (pg_name (i := 8) sc_law_joined.nd rfl (Or.inl rfl))) (pss_one (ps_if (PW.pt (pw_or (pt_cmpR op_isN2 (pe_ix (ix_seq : IxR _ (rIx K)) (pe_ix (ix_seq : IxR _ (rIx K)) (pv 5) (pv 6) (fun _ _ => rfl)) (pv 7) (fun _ _ => rfl)) pe_non (nomark _)) (pw_or1 (pt_cmpR op_lt (pv 8) (pe_ix (ix_seq : IxR _ (rIx K)) (pe_ix (ix_seq : IxR _ (rIx K)) (pv 5) (pv 6) (fun _ _ => rfl)) (pv 7) (fun _ _ => rfl)) (nomark _))))) (pss_one (ps_asg (pv 8) (pg_sub (pe_ix (ix_seq : IxR _ (rIx K)) (pv 5) (pv 6) (fun _ _ => rfl)) (pv 7) set_list))) pss_nil))) pss_nil))))) (pss_one (ps_ret (pv 5)))))), ?_⟩
    obtain ⟨p1, _, _, _, rfl, ep, t1, t2, t3⟩ := WQ.tp3 td
    cases t1
    cases t2
    cases t3
    obtain ⟨i0, i1, i2, i3⟩ := hin
    have lrs := hm.len
    walk_at "xx"
    refine k_l (lst_of hm.tab) ?_
    refine c_it (walk_list (K := K) (a := a) (xs := rs.map V.ref))
      (fun D i acc H4 => acc.length = i ∧ ∀ (j : Nat) (y : V), acc[j]? = some y → ∃ r, y = .ref r ∧ r ≠ D ∧ H r = none ∧ H4 r = some (.lst ((List.range (n + 1)).map fun l => oI (B j l))) ∧ ∀ (j' : Nat), acc[j']? = some y → j' = j) (fun H' s' => lst_of (s' _ _ hm.tab)) (fun i H1 x H2 y => yat_same y) (small1000' (by rw [List.length_map]; omega))
      (fun D i acc H1 o => Nat.le_of_eq o.1) (fun D i acc H5 H6 c ⟨ys, e⟩ o => ⟨o.1, fun j y g => ?_⟩) (fun D H4 nD s e => ⟨rfl, fun j y g => by cases g⟩) (fun D i xx H4 H5 acc N M' hi nD s4 eD o y s5 hN hM => ?_) (fun D H4 ys nD s4 e4 o => ?_)
    · obtain ⟨r, rfl, hr, hr0, f, u⟩ := o.2 j y g
      exact ⟨r, rfl, hr, hr0, c.at f hr, u⟩
    · obtain ⟨rfl, gx⟩ := y
      clear s5
      rw [List.length_map] at hi
      rw [List.getElem?_map, List.getElem?_eq_getElem hi] at gx
      cases gx
      have er := hm.rows i _ (List.getElem?_eq_getElem hi)
      walk_at "xx"
      refine ⟨rfl, ?_⟩
      walk_at "xx"
      refine ls_new (lst_of (s4 _ _ er)) fun r H6 n6 s6 e6 => ?_
      have fresh : ∀ (j : Nat), acc[j]? ≠ some (.ref r) := fun j g => by
        obtain ⟨r', h1, _, _, h2, _⟩ := o.2 j _ g
        cases h1
        rw [n6] at h2
        cases h2
      refine hN _ _ s6 ⟨by rw [List.length_append, o.1]; rfl, fun j y g => ?_⟩
      by_cases hj : j < acc.length
      · rw [List.getElem?_append_left hj] at g
        obtain ⟨r1, rfl, hr, hr0, f, u⟩ := o.2 j y g
        refine ⟨r1, rfl, hr, hr0, s6 _ _ f, fun j' g' => ?_⟩
        by_cases hj' : j' < acc.length
        · rw [List.getElem?_append_left hj'] at g'
          exact u j' g'
        · rw [List.getElem?_append_right (by omega)] at g'
          have h0 := (List.getElem?_eq_some_iff.mp g').1
          rw [List.length_singleton] at h0
          rw [show j' - acc.length = 0 by omega] at g'
          cases g'
          exact absurd g (fresh j)
      · have hj2 := (List.getElem?_eq_some_iff.mp g).1
        rw [List.length_append, List.length_singleton] at hj2
        have : j = acc.length := by omega
        subst this
        rw [List.getElem?_append_right (Nat.le_refl _), Nat.sub_self] at g
        cases g
        refine ⟨r, rfl, fun e => ?_, s4.free n6, by rw [o.1]; exact e6, fun j' g' => ?_⟩
        · subst e
          rw [eD] at n6
          cases n6
        · by_cases hj' : j' < acc.length
          · rw [List.getElem?_append_left hj'] at g'
            exact absurd g' (fresh j')
          · have h0 := (List.getElem?_eq_some_iff.mp g').1
            rw [List.length_append, List.length_singleton] at h0
            omega
    obtain ⟨rj, rfl⟩ := refs_of fun j y g => by
      obtain ⟨r, h, _⟩ := o.2 j y g
      exact ⟨r, h⟩
    have lrj : rj.length = n + 1 := by
      have := o.1
      rw [List.length_map, List.length_map] at this
      omega
    have fact : ∀ (i : Nat) (r : Addr), rj[i]? = some r → r ≠ D ∧ H r = none ∧ H4 r = some (.lst ((List.range (n + 1)).map fun l => oI (B i l))) ∧ ∀ (i' : Nat), rj[i']? = some r → i' = i := fun i r g => by
      obtain ⟨r', h, h1, h2, h3, h4⟩ := o.2 i (.ref r) (by rw [List.getElem?_map, g]; rfl)
      cases h
      exact ⟨h1, h2, h3, fun i' g' => h4 i' (by rw [List.getElem?_map, g']; rfl)⟩
    have hj0 : MatAt H4 D rj n B := ⟨e4, lrj, fun i r g => (fact i r g).2.2.1⟩
    clear o
    obtain ⟨R, hR⟩ : ∃ R : Nat → Nat → Option Int, R = fun i j => relax (B i j) (B i df.1.toNat) df.2.2 (B df.2.1.toNat j) := ⟨_, rfl⟩
    have last : ∀ H', Same H H' → MatAt H' D rj n R → Q (.ref D) H' := fun H' s m => q D H' rj s nD (fun r hr => by
      obtain ⟨i, hi, e⟩ := List.getElem_of_mem hr
      have := (fact i _ (List.getElem?_eq_getElem hi)).2.1
      rwa [e] at this) (by rw [hR] at m; exact m)
    walk_at "xx"
    refine b_lenL (lst_of (s4 _ _ hm.tab)) ?_
    rw [List.length_map, lrs]
    walk_at "xx"
    rw [Int.toNat_natCast]
    refine f_range (fun i σ H' => ∃ z6 z7 z8 z9, σ = [some (.ref a), some (.ref p1), some (.int df.1), some (.int df.2.1), some (.int df.2.2), some (.ref D), z6, z7, z8, z9] ∧ Same H H' ∧ MatAt H' D rj n (fun x y => if x < i then R x y else B x y))
      ⟨_, _, _, _, rfl, s4, hj0.cong fun x y _ _ => (if_neg (Nat.not_lt_zero _)).symm⟩ (fun i σ H5 hi p => ?_) (fun σ H5 p => ?_)
    · obtain ⟨z6, z7, z8, z9, rfl, s5, m5⟩ := p
      rw [Int.zero_add]
      walk_at "xx"
      refine b_lenL (lst_of (s5 _ _ hm.tab)) ?_
      rw [List.length_map, lrs]
      walk_at "xx"
      rw [Int.toNat_natCast]
      refine f_range (fun j σ H' => ∃ z7 z8 z9, σ = [some (.ref a), some (.ref p1), some (.int df.1), some (.int df.2.1), some (.int df.2.2), some (.ref D), some (.int i), z7, z8, z9] ∧ Same H H' ∧ MatAt H' D rj n (fun x y => if x < i ∨ (x = i ∧ y < j) then R x y else B x y))
        ⟨_, _, _, rfl, s5, m5.cong fun x y _ _ => by
          by_cases h : x < i
          · rw [if_pos h, if_pos (.inl h)]
          · rw [if_neg h, if_neg (by omega)]⟩ (fun j σ H6 hj p => ?_) (fun σ H6 p => ?_)
      · obtain ⟨z7, z8, z9, rfl, s6, m6⟩ := p
        have hm6 := hm.same s6
        have keepB : R i j = B i j → MatAt H6 D rj n (fun x y => if x < i ∨ (x = i ∧ y < j + 1) then R x y else B x y) := fun e => m6.cong fun x y _ _ => by
          by_cases h : x < i ∨ (x = i ∧ y < j)
          · rw [if_pos h, if_pos (by omega)]
          · rw [if_neg h]
            by_cases h2 : x = i ∧ y = j
            · rw [h2.1, h2.2, if_pos (by omega), e]
            · rw [if_neg (by omega)]
        rw [Int.zero_add]
        walk_at "xx"
        refine ix_mat hm6 (by omega) (by omega) fun r1 g1 er1 => ?_
        rw [Int.toNat_natCast] at g1 er1
        walk_at "xx"
        refine ix_row er1 i0 i1 ?_
        walk_at "xx"
        cases e1 : B i df.1.toNat with
        | none =>
          rw [oI_none]
          walk_at "xx"
          refine ⟨_, _, _, rfl, s6, keepB ?_⟩
          rw [hR]
          show relax _ (B i df.1.toNat) _ _ = _
          rw [e1]
          rfl
        | some x =>
        rw [oI_some]
        walk_at "xx"
        refine ix_mat hm6 i2 i3 fun r2 g2 er2 => ?_
        walk_at "xx"
        refine ix_row er2 (by omega) (by omega) ?_
        rw [Int.toNat_natCast]
        walk_at "xx"
        cases e2 : B df.2.1.toNat j with
        | none =>
          rw [oI_none]
          walk_at "xx"
          refine ⟨_, _, _, rfl, s6, keepB ?_⟩
          rw [hR]
          show relax _ (B i df.1.toNat) _ (B df.2.1.toNat j) = _
          rw [e1, e2]
          rfl
        | some y =>
        have eR : R i j = relax (B i j) (some x) df.2.2 (some y) := by
          rw [hR]
          show relax _ (B i df.1.toNat) _ (B df.2.1.toNat j) = _
          rw [e1, e2]
        rw [oI_some]
        walk_at "xx"
        refine ix_mat hm6 (by omega) (by omega) fun r1' g1' er1' => ?_
        rw [Int.toNat_natCast] at er1'
        walk_at "xx"
        refine ix_row er1' i0 i1 ?_
        rw [e1, oI_some]
        walk_at "xx"
        refine ix_mat hm6 i2 i3 fun r2 g2 er2 => ?_
        walk_at "xx"
        refine ix_row er2 (by omega) (by omega) ?_
        rw [Int.toNat_natCast, e2, oI_some]
        walk_at "xx"
        refine ix_mat m6 (by omega) (by omega) fun r3 g3 er3 => ?_
        rw [Int.toNat_natCast] at g3 er3
        have cur : ∀ y, (if i < i ∨ (i = i ∧ y < j) then R i y else B i y) = if y < j then R i y else B i y := fun y => by
          by_cases h : y < j
          · rw [if_pos (.inr ⟨rfl, h⟩), if_pos h]
          · rw [if_neg (by omega), if_neg h]
        walk_at "xx"
        refine ix_row er3 (by omega) (by omega) ?_
        rw [Int.toNat_natCast, cur, if_neg (Nat.lt_irrefl _)]
        have store : ∀ (N : Hp → Prop), (∀ H7, Same H H7 → MatAt H7 D rj n (fun x y => if x < i ∨ (x = i ∧ y < j + 1) then R x y else B x y) → N H7) → R i j = some (x + df.2.2 + y) → rSetL (.ref r3) (.int j) (.int (x + df.2.2 + y)) H6 N := fun N hN e => by
          refine st_L er3 (j := j) (by rw [List.length_map, List.length_range]; exact ixN_nat (by omega)) fun H7 c7 e7 => ?_
          obtain ⟨f1, f2, f3, f4⟩ := fact i r3 g3
          refine hN H7 (c7.same s6 f2) ⟨c7.at m6.tab (Ne.symm f1), lrj, fun k r g => ?_⟩
          by_cases hk : r = r3
          · subst hk
            obtain rfl := f4 k g
            rw [e7]
            refine congrArg (fun z => some (HO.lst z)) (List.ext_getElem? fun m => ?_)
            rw [List.getElem?_set, List.getElem?_map, List.getElem?_map, List.length_map, List.length_range]
            by_cases hmj : j = m
            · subst hmj
              rw [if_pos rfl, if_pos (by omega), List.getElem?_range (by omega)]
              show some (V.int _) = some (oI (if _ then R k j else B k j))
              rw [if_pos (by omega), e]
              rfl
            · rw [if_neg hmj]
              by_cases hmr : m < n + 1
              · rw [List.getElem?_range hmr]
                show some (oI (if _ then R k m else B k m)) = some (oI (if _ then R k m else B k m))
                by_cases h : m < j
                · rw [if_pos (by omega), if_pos (by omega)]
                · rw [if_neg (by omega), if_neg (by omega)]
              · rw [List.getElem?_eq_none (by rw [List.length_range]; omega)]
                rfl
          · rw [c7.at (m6.rows k r g) hk]
            have hki : k ≠ i := fun e => by
              subst e
              rw [g3] at g
              exact hk (Option.some.inj g).symm
            refine congrArg (fun z => some (HO.lst z)) (List.map_congr_left fun m hm => ?_)
            by_cases h : k < i
            · rw [if_pos (.inl h), if_pos (.inl h)]
            · rw [if_neg (by omega), if_neg (by omega)]
        cases e3 : B i j with
        | none =>
          rw [oI_none]
          walk_at "xx"
          refine ix_mat m6 (by omega) (by omega) fun r3' g3' er3' => ?_
          rw [Int.toNat_natCast, g3] at g3'
          cases g3'
          walk_at "xx"
          refine store _ (fun H7 s7 m7 => ?_) (by rw [eR, e3]; rfl)
          exact ⟨_, _, _, rfl, s7, m7⟩
        | some z =>
          rw [oI_some]
          walk_at "xx"
          refine ix_mat m6 (by omega) (by omega) fun r3' g3' er3' => ?_
          rw [Int.toNat_natCast] at er3'
          walk_at "xx"
          refine ix_row er3' (by omega) (by omega) ?_
          rw [Int.toNat_natCast, cur, if_neg (Nat.lt_irrefl _), e3, oI_some]
          walk_at "xx"
          refine iteD (fun e => ?_) (fun e => ?_)
          · walk_at "xx"
            refine ix_mat m6 (by omega) (by omega) fun r3' g3' er3' => ?_
            rw [Int.toNat_natCast, g3] at g3'
            cases g3'
            walk_at "xx"
            refine store _ (fun H7 s7 m7 => ?_) (by
              rw [eR, e3]
              show (if z ≤ x + df.2.2 + y then some z else _) = _
              rw [if_neg (by omega)])
            exact ⟨_, _, _, rfl, s7, m7⟩
          · walk_at "xx"
            refine ⟨_, _, _, rfl, s6, keepB ?_⟩
            rw [eR, e3]
            show (if z ≤ x + df.2.2 + y then some z else _) = _
            rw [if_pos (by omega)]
      · obtain ⟨z7, z8, z9, rfl, s6, m6⟩ := p
        walk_at "xx"
        refine ⟨_, _, _, _, rfl, s6, m6.cong fun x y _ hy => ?_⟩
        by_cases h : x < i + 1
        · rw [if_pos h, if_pos (by omega)]
        · rw [if_neg h, if_neg (by omega)]
    · obtain ⟨z6, z7, z8, z9, rfl, s5, m5⟩ := p
      walk_at "xx"
      exact last _ s5 (m5.cong fun x y hx _ => if_pos (by omega))
end
end K16
namespace K16
open PySem PySem.Spec PyProof.Rows L2 Wy WN WQ WS WC WE WO WT

-- WIDE
/-- the bounds hold for values that keep the differences -/
def Snd (n : Nat) (ds : List Df) (B : Nat → Nat → Option Int) : Prop := ∀ vals : List Int, ds.all (kept vals) = true → ∀ i j z, i ≤ n → j ≤ n → B i j = some z → lv vals i - lv vals j ≤ z
theorem Snd.step {n : Nat} {ds : List Df} {B : Nat → Nat → Option Int} {d : Df} (h : Snd n ds B) (hd : InR n d) : Snd n (ds ++ [d]) (fun i j => relax (B i j) (B i d.1.toNat) d.2.2 (B d.2.1.toNat j)) := by
  intro vals hk i j z hi hj hz
  rw [List.all_append, Bool.and_eq_true] at hk
  obtain ⟨h0, h1, h2, h3⟩ := hd
  have hd := of_decide_eq_true (List.all_eq_true.mp hk.2 d (List.mem_singleton_self _))
  rcases relax_le hz with e | ⟨p, q, e1, e2, e3⟩
  · exact h vals hk.1 i j z hi hj e
  · have a := h vals hk.1 i _ p hi (by omega) e1
    have b := h vals hk.1 _ j q (by omega) hj e2
    rw [show ((d.1.toNat : Nat) : Int) = d.1 by omega] at a
    rw [show ((d.2.1.toNat : Nat) : Int) = d.2.1 by omega] at b
    omega
section
variable {P : Program} {w : World} {K : PySem.W.Frag} {mg : Str → Option Value} {base : Heap}
def spFits (K : PySem.W.Frag) : Sp := fun vs H Q _ => ∃ (x b l e : Addr) (S : Spot) (n : Nat) (ds' ds : List Df) (M : Tab) (us : List V) (rs : List Addr) (vals : List Int), vs = [.ref x, .ref b, .ref l, .int n, .ref e] ∧ SysAt K H x S n ds' M ∧ H b = some (.lst us) ∧ TpAll H us (ds.map dfD) ∧
  MatAt H l rs n (bd M) ∧ H e = some (.lst (vals.map V.int)) ∧ vals.length = n ∧ n ≤ 100 ∧ ds.length ≤ 1000 ∧ (∀ d ∈ ds, InR n d) ∧ Snd n ds (bd M) ∧ ∀ H', Same H H' → Q (.bl true) H'
theorem k_law_fits (T : Tx K mg) : C8.Cal P w K mg base 2 "_law_fits" (spFits K) [] := by
  refine cal_of (N := n_law_fits) T.d_law_fits sc_law_fits (fun _ _ F => F.bindsN fun _ _ _ _ _ _ us hl => match us, hl with | [_, _, _, _, _], _ => rfl) (fun vs H Q E h => ?_) (fun f cdv A outer s H vs Q E hr h => ?_)
  · obtain ⟨x, b, l, e, S, n, ds', ds, M, us, rs, vals, rfl, _⟩ := h
    rfl
  · obtain ⟨x, b, l, e, S, n, ds', ds, M, us, rs, vals, rfl, hs, hB, tB, hm, hE, hv, hn, hd, hin, hsnd, q⟩ := h
    refine ⟨_, (pss_cons (ps_asg (pe_op op_add3 (pe_lst (pa_cons pe_int pa_nil)) (pv 4)) (pg_name (i := 5) sc_law_fits.nd rfl (Or.inl rfl))) (pss_cons (ps_asg (C8.pe_c (k_law_kept T) hr (by first | decide | omega) (by rfl) (pa_cons (pv 1) (pa_cons (pv 4) pa_nil))) (pg_name (i := 6) sc_law_fits.nd rfl (Or.inl rfl))) (pss_cons (ps_for PassesOwn.never rfl (pi_range1 (by rfl) T.z_range (pa_cons (pe_op op_add3 (pv 3) pe_int) pa_nil)) (pg_name (i := 7) sc_law_fits.nd rfl (Or.inl rfl)) (pss_one (ps_for PassesOwn.never rfl (pi_range1 (by rfl) T.z_range (pa_cons (pe_op op_add3 (pv 3) pe_int) pa_nil)) (pg_name (i := 8) sc_law_fits.nd rfl (Or.inl rfl)) (pss_cons (ps_asg (C8.pe_mt (k_System_bound (K := K) T) hr (by first | decide | omega) (pv 0) (pa_cons (pv 7) (pa_cons (pv 8) pa_nil))) (pg_name (i := 9) sc_law_fits.nd rfl (Or.inl rfl))) (pss_one (ps_if (pt_cmpR op_isN2 (pe_ix (ix_seq : IxR _ (rIx K)) (pe_ix (ix_seq : IxR _ (rIx K)) (pv 2) (pv 7) (fun _ _ => rfl)) (pv 8) (fun _ _ => rfl)) pe_non (nomark _)) (pss_one (ps_if (pt_cmpR op_ntN2 (pv 9) pe_non (nomark _)) (pss_one (ps_ret pe_bl)) pss_nil)) (pss_one (ps_if (PW.pt (pw_or (pt_not (pt_tr (C8.pe_c (k_law_is_integer T) hr (by first | decide | omega) (by rfl) (pa_cons (pv 9) pa_nil)) : PT _ _ (tTr K _))) (pw_or (pt_cmpR (op_ne2 hr.units : OpR _ _ (rNe2 K)) (pv 9) (pe_ix (ix_seq : IxR _ (rIx K)) (pe_ix (ix_seq : IxR _ (rIx K)) (pv 2) (pv 7) (fun _ _ => rfl)) (pv 8) (fun _ _ => rfl)) (nomark _)) (pw_or1 (PW.pt (pw_and (pt_tr (pv 6) : PT _ _ (tTr K _)) (pw_and1 (pt_cmpR op_gt (pe_op op_sub (pe_ix (ix_seq : IxR _ (rIx K)) (pv 5) (pv 7) (fun _ _ => rfl)) (pe_ix (ix_seq : IxR _ (rIx K)) (pv 5) (pv 8) (fun _ _ => rfl))) (pv 9) (nomark _))))))))) (pss_one (ps_ret pe_bl)) pss_nil)))))))) (pss_one (ps_ret pe_bl))))), ?_⟩
    walk_at "xx"
    refine o_addL (by walk_at "hp") (by walk_at "hp") (by rw [List.length_map]; exact lz (by show 1 + _ ≤ _; omega)) fun lp H2 n2 s2 e2 => ?_
    have e2 : H2 lp = some (.lst ((0 :: vals).map V.int)) := e2
    have S2 : Same H H2 := by walk_at "sa"
    walk_at "xx"
    refine ⟨b, e, us, ds, vals, rfl, .inl (lst_of (S2 _ _ hB)), tB.tk S2.tk, S2 _ _ hE, by rw [hv]; exact hin, hd, by omega, fun H3 s3 => ?_⟩
    have S3 := S2.trans s3
    have e3 := s3 _ _ e2
    walk_at "xx"
    refine f_range (fun i σ H' => ∃ z7 z8 z9, σ = [some (.ref x), some (.ref b), some (.ref l), some (.int n), some (.ref e), some (.ref lp), some (.bl (ds.all (kept vals))), z7, z8, z9] ∧ Same H3 H')
      ⟨_, _, _, rfl, Same.refl _⟩ (fun i σ H4 hi p => ?_) (fun σ H4 p => ?_)
    · obtain ⟨z7, z8, z9, rfl, s4⟩ := p
      rw [Int.zero_add]
      walk_at "xx"
      refine f_range (fun j σ H' => ∃ z8 z9, σ = [some (.ref x), some (.ref b), some (.ref l), some (.int n), some (.ref e), some (.ref lp), some (.bl (ds.all (kept vals))), some (.int i), z8, z9] ∧ Same H3 H')
        ⟨_, _, rfl, s4⟩ (fun j σ H5 hj p => ?_) (fun σ H5 p => ?_)
      · obtain ⟨z8, z9, rfl, s5⟩ := p
        have hi : i ≤ n := by omega
        have hj : j ≤ n := by omega
        have hs5 := hs.same (S3.trans s5)
        have hm5 := hm.same (S3.trans s5)
        have hx := hs5.ins
        rw [Int.zero_add]
        walk_at "xx"
        refine ⟨x, S, n, ds', M, i, j, rfl, hs5, by omega, by omega, by omega, by omega, ?_⟩
        rw [Int.toNat_natCast, Int.toNat_natCast]
        walk_at "xx"
        refine ix_mat hm5 (by omega) (by omega) fun r1 g1 er1 => ?_
        rw [Int.toNat_natCast] at g1 er1
        walk_at "xx"
        refine ix_row er1 (by omega) (by omega) ?_
        rw [Int.toNat_natCast]
        cases eb : bd M i j with
        | none =>
          rw [oI_none]
          walk_at "xx"
          exact ⟨_, _, rfl, s5⟩
        | some z =>
          rw [oI_some]
          walk_at "xx"
          refine ⟨_, rfl, ?_⟩
          walk_at "xx"
          refine ix_mat hm5 (by omega) (by omega) fun r1 g1 er1 => ?_
          rw [Int.toNat_natCast] at g1 er1
          walk_at "xx"
          refine ix_row er1 (by omega) (by omega) ?_
          rw [Int.toNat_natCast, eb, oI_some]
          walk_at "xx"
          refine iteNI (fun h => absurd rfl h) (fun _ => ?_)
          walk_at "xx"
          cases hk : ds.all (kept vals) with
          | false =>
            walk_at "xx"
            exact ⟨_, _, rfl, s5⟩
          | true =>
            walk_at "xx"
            refine ix_lv (lst_of (s5 _ _ e3)) (by omega) (by omega) ?_
            walk_at "xx"
            refine ix_lv (lst_of (s5 _ _ e3)) (by omega) (by omega) ?_
            walk_at "xx"
            have := hsnd vals hk i j z hi hj eb
            refine iteD (fun h => by omega) (fun _ => ?_)
            walk_at "xx"
            exact ⟨_, _, rfl, s5⟩
      · obtain ⟨z8, z9, rfl, s5⟩ := p
        walk_at "xx"
        exact ⟨_, _, _, rfl, s5⟩
    · obtain ⟨z7, z8, z9, rfl, s4⟩ := p
      walk_at "xx"
      exact q _ (S3.trans s4)
end
end K16
namespace K16
open PySem PySem.Spec PyProof.Rows L2 Wy WN WQ WS WC WE WO WT

-- WIDE
-- CUTIF law := k == shape[3] and (not _law_fits(system, taken, least, many, values))
section
variable {P : Program} {w : World} {K : PySem.W.Frag} {mg : Str → Option Value} {base : Heap}
theorem ok_law (T : Tx K mg) {f : Addr} {fd : FuncData} (F : FunD K "law" "law" (defArgs s_law) (defBody s_law) (defScope s_law) [] [] f fd) : FnOk P w K mg base CX0 6 f fd ["script"] (spLaw K) := by
  refine fn_of2 (N := n_law) F sc_law (fun vs H Q E h => ?_) (fun f cdv A outer s H vs Q E hr h => ?_)
  · obtain ⟨a, ns, rfl, _⟩ := h
    rfl
  · obtain ⟨a0, zs, rfl, hS, hl, q⟩ := h
    refine ⟨_, (pss_cons (ps_asg (C8.pe_c (k_law_draws T) hr (by first | decide | omega) (by rfl) (pa_cons (pv 0) (pa_cons pe_int (pa_cons (pe_lst (pa_cons pe_int (pa_cons pe_int (pa_cons pe_int (pa_cons pe_int (pa_cons pe_int pa_nil)))))) pa_nil)))) (pg_name (i := 1) sc_law.nd rfl (Or.inl rfl))) (pss_cons (ps_asg (pe_op op_add3 pe_int (pe_ix (ix_seq : IxR _ (rIx K)) (pv 1) pe_int (fun _ _ => rfl))) (pg_name (i := 2) sc_law.nd rfl (Or.inr rfl))) (pss_cons (ps_asg (C8.pe_c (k_law_differences T) hr (by first | decide | omega) (by rfl) (pa_cons (pv 0) (pa_cons pe_int (pa_cons (pe_ix (ix_seq : IxR _ (rIx K)) (pv 1) pe_int (fun _ _ => rfl)) (pa_cons (pv 2) pa_nil))))) (pg_name (i := 3) sc_law.nd rfl (Or.inl rfl))) (pss_cons (ps_setLc (i := 5) (own := [("draw", 15)]) (g := gName 15) (tt := tYes) (by rfl) sc_law.nd rfl rfl (sw_true rfl rfl rfl (by decide +kernel)) (pi_list (C8.pe_c (k_law_draws T) hr (by first | decide | omega) (by rfl) (pa_cons (pv 0) (pa_cons pe_int (pa_cons (pe_lc (own := [("k", 4)]) (g := gName 4) (tt := tYes) (by rfl) sc_law.nd (pi_range1 (by rfl) T.z_range (pa_cons (pv 2) pa_nil)) (blkOk_by (own := [("k", 4)]) (N := n_law) (sc := defScope s_law) (by decide +kernel)) (fun _ _ _ _ _ => pg_name (i := 4) sc_law.nd rfl (Or.inl rfl)) (fun _ _ _ _ _ => pts_nil) (fun _ _ _ _ _ => (pe_op op_pow pe_int pe_int))) pa_nil)))) : PI _ _ _ (iList K _)) (blkOk_by (own := [("draw", 15)]) (N := n_law) (sc := defScope s_law) (by decide +kernel)) (fun _ _ _ _ _ => pg_name (i := 15) sc_law.nd rfl (Or.inl rfl)) (fun _ _ _ _ _ => pts_nil) (fun _ _ _ _ _ => (C8.pe_c (k_law_weight T) hr (by first | decide | omega) (by rfl) (pa_cons (pv 15) pa_nil)))) (C8.pss_cut (ps_if (pt_cmpR (op_eq2 hr.units : OpR _ _ (rEq2 K)) (pe_ix (ix_seq : IxR _ (rIx K)) (pv 1) pe_int (fun _ _ => rfl)) pe_int (nomark _)) (pss_one (ps_asg (pe_op op_add3 (pe_slice (sl_2 : SlR _ (rSl2 K)) (pv 3) po_none (po_some pe_int)) (pe_revL (pe_lc (own := [("k", 4)]) (g := gName 4) (tt := tYes) (by rfl) sc_law.nd (pi_range1 (by rfl) T.z_range (pa_cons (pv 2) pa_nil)) (blkOk_by (own := [("k", 4)]) (N := n_law) (sc := defScope s_law) (by decide +kernel)) (fun _ _ _ _ _ => pg_name (i := 4) sc_law.nd rfl (Or.inl rfl)) (fun _ _ _ _ _ => pts_nil) (fun _ _ _ _ _ => (pe_tup (pa_cons (pv 4) (pa_cons (pe_op op_add3 (pv 4) pe_int) (pa_cons (pe_un un_neg (pv 4)) pa_nil)))))) : PE _ _ (tRevL K _))) (pg_name (i := 3) sc_law.nd rfl (Or.inl rfl)))) pss_nil) (C8.pss_cut (ps_if (pt_cmpR op_gt (pe_ix (ix_seq : IxR _ (rIx K)) (pv 1) pe_int (fun _ _ => rfl)) pe_int (nomark _)) (pss_one (ps_asg (C8.pe_c (k_law_raised T) hr (by first | decide | omega) (by rfl) (pa_cons (pv 0) (pa_cons (pv 3) (pa_cons (pv 5) pa_nil)))) (pg_name (i := 3) sc_law.nd rfl (Or.inl rfl)))) pss_nil) (pss_cons (ps_asg (C8.pe_mk (k_System___init (K := K) T) hr (by first | decide | omega) (by rfl) (pa_cons (pv 2) pa_nil)) (pg_name (i := 6) sc_law.nd rfl (Or.inl rfl))) (pss_cons (ps_setLc (i := 9) (own := [("u", 7)]) (g := gName 7) (tt := tYes) (by rfl) sc_law.nd rfl rfl (sw_true rfl rfl rfl (by decide +kernel)) (pi_range1 (by rfl) T.z_range (pa_cons (pe_op op_add3 (pv 2) pe_int) pa_nil)) (blkOk_by (own := [("u", 7)]) (N := n_law) (sc := defScope s_law) (by decide +kernel)) (fun _ _ _ _ _ => pg_name (i := 7) sc_law.nd rfl (Or.inr rfl)) (fun _ _ _ _ _ => pts_nil) (fun _ _ _ _ _ => (pe_lc (own := [("v", 8)]) (g := gName 8) (tt := tYes) (by rfl) sc_law.nd (pi_range1 (by rfl) T.z_range (pa_cons (pe_op op_add3 (pv 2) pe_int) pa_nil)) (blkOk_by (own := [("v", 8)]) (N := n_law) (by kernel_rfl)) (fun _ _ _ _ _ => pg_name (i := 8) sc_law.nd rfl (Or.inl rfl)) (fun _ _ _ _ _ => pts_nil) (fun _ _ _ _ _ => (pe_ix (ix_seq : IxR _ (rIx K)) (pe_lst (pa_cons pe_non (pa_cons pe_int pa_nil))) (pe_callTy call_int2 (by rfl) T.z_int (by decide +kernel) (pa_cons (pe_cmpR (op_eq2 hr.units : OpR _ _ (rEq2 K)) (pv 7) (pv 8) (nomark _)) pa_nil)) (fun _ _ => rfl)))))) (pss_cons (ps_asg (pe_lst pa_nil) (pg_name (i := 10) sc_law.nd rfl (Or.inl rfl))) (pss_cons (ps_for PassesOwn.never rfl (pi_range1 (by rfl) T.z_range (pa_cons (pe_callB (call_len2 : CallR _ _ (rLn K)) (by rfl) T.z_len (by decide +kernel) (pa_cons (pv 3) pa_nil)) pa_nil)) (pg_name (i := 4) sc_law.nd rfl (Or.inl rfl)) (C8.pss_cut (ps_if (PW.pt (pw_and (pt_cmpR (op_eq2 hr.units : OpR _ _ (rEq2 K)) (pv 4) (pe_ix (ix_seq : IxR _ (rIx K)) (pv 1) pe_int (fun _ _ => rfl)) (nomark _)) (pw_and1 (pt_not (pt_tr (C8.pe_c (k_law_fits T) hr (by first | decide | omega) (by rfl) (pa_cons (pv 6) (pa_cons (pv 10) (pa_cons (pv 9) (pa_cons (pv 2) (pa_cons (pv 5) pa_nil)))))) : PT _ _ (tTr K _)))))) (pss_one (ps_ret pe_bl)) pss_nil) (pss_cons (ps_asg (pe_ix (ix_seq : IxR _ (rIx K)) (pv 3) (pv 4) (fun _ _ => rfl)) (pg_tup (by rfl) (pgs_cons (pg_name (i := 7) sc_law.nd rfl (Or.inl rfl)) (pgs_cons (pg_name (i := 8) sc_law.nd rfl (Or.inl rfl)) (pgs_cons (pg_name (i := 11) sc_law.nd rfl (Or.inl rfl)) pgs_nil))) : PG _ _ (gTup K _ _))) (pss_cons (ps_asg (pe_ix (ix_seq : IxR _ (rIx K)) (pe_ix (ix_seq : IxR _ (rIx K)) (pv 9) (pv 8) (fun _ _ => rfl)) (pv 7) (fun _ _ => rfl)) (pg_name (i := 12) sc_law.nd rfl (Or.inl rfl))) (pss_cons (ps_asg (C8.pe_mt (k_System_tie (K := K) T) hr (by first | decide | omega) (pv 6) (pa_cons (pe_ix (ix_seq : IxR _ (rIx K)) (pv 3) (pv 4) (fun _ _ => rfl)) pa_nil)) (pg_name (i := 13) sc_law.nd rfl (Or.inl rfl))) (pss_cons (ps_if (pt_cmpR (op_ne2 hr.units : OpR _ _ (rNe2 K)) (pe_callTy call_int2 (by rfl) T.z_int (by decide +kernel) (pa_cons (pe_cmpR op_ntN2 (pv 13) pe_non (nomark _)) pa_nil)) (pe_callTy call_int2 (by rfl) T.z_int (by decide +kernel) (pa_cons (pe_and (pe_cmpR op_ntN2 (pv 12) pe_non (nomark _)) (pe_one (pe_cmpR op_lt (pe_op op_add3 (pv 12) (pv 11)) pe_int (nomark _)))) pa_nil)) (nomark _)) (pss_one (ps_ret pe_bl)) pss_nil) (pss_cons (ps_if (pt_cmpR op_ntN2 (pv 13) pe_non (nomark _)) (pss_one (ps_ret pe_bl)) pss_nil) (pss_cons (ps_asg (C8.pe_c (k_law_joined T) hr (by first | decide | omega) (by rfl) (pa_cons (pv 9) (pa_cons (pe_ix (ix_seq : IxR _ (rIx K)) (pv 3) (pv 4) (fun _ _ => rfl)) pa_nil))) (pg_name (i := 9) sc_law.nd rfl (Or.inl rfl))) (pss_one (ps_expr (pe_bm PySem.F.plainAttrs_list PySem.F.slot_list_append PySem.F.type_list_append mt_append (pv 10) (pa_cons (pe_ix (ix_seq : IxR _ (rIx K)) (pv 3) (pv 4) (fun _ _ => rfl)) pa_nil) : PE _ _ (tBM K _ _ _ _)))))))))))) (pss_cons (ps_asg (C8.pe_mk (k_System___init (K := K) T) hr (by first | decide | omega) (by rfl) (pa_cons pe_int pa_nil)) (pg_name (i := 14) sc_law.nd rfl (Or.inl rfl))) (pss_one (ps_ret (pe_and (pe_cmpR op_isN2 (C8.pe_mt (k_System_bound (K := K) T) hr (by first | decide | omega) (pv 14) (pa_cons pe_int (pa_cons pe_int pa_nil))) pe_non (nomark _)) (pe_one (C8.pe_c (k_law_fits T) hr (by first | decide | omega) (by rfl) (pa_cons (pv 6) (pa_cons (pv 10) (pa_cons (pv 9) (pa_cons (pv 2) (pa_cons (pv 5) pa_nil))))))))))))))))))))), ?_⟩
    have cl := T.c_System
    walk_at "xx"
    refine ⟨a0, _, zs, [4, 8, 15, 15, 8], 0, rfl, by walk_at "sq", by walk_at "sq", szOk_of (by decide +kernel), fun p H1 ds s1 np e1 hd => ?_⟩
    obtain ⟨d0, _, rfl, l0, u0, hd⟩ := hd.inv
    obtain ⟨d1, _, rfl, l1, u1, hd⟩ := hd.inv
    obtain ⟨d2, _, rfl, l2, u2, hd⟩ := hd.inv
    obtain ⟨d3, _, rfl, l3, u3, hd⟩ := hd.inv
    obtain ⟨d4, _, rfl, l4, u4, hd⟩ := hd.inv
    obtain rfl := hd.nil_inv
    clear hd
    have e1 : H1 p = some (.lst [.int d0, .int d1, .int d2, .int d3, .int d4]) := e1
    have hS1 : SqL K H1 a0 (zs.map V.int) := by walk_at "sq"
    obtain ⟨d2, rfl⟩ : ∃ m : Nat, d2 = m := ⟨d2.toNat, by omega⟩
    clear s1
    walk_at "xx"
    obtain ⟨n, hM⟩ : ∃ m : Nat, 1 + d1 = m := ⟨(1 + d1).toNat, by omega⟩
    have hn1 : 1 ≤ n := by omega
    have hn8 : n ≤ 8 := by omega
    rw [hM]
    walk_at "xx"
    refine ⟨a0, zs, 1, d2, n, rfl, hS1, by omega, by omega, fun dp us H2 ds s2 n2 e2 t2 ld hin => ?_⟩
    walk_at "xx"
    refine c_constI (c := 10 ^ 42) (fun _ _ _ h => ?_) (by omega) (fun _ => rfl) fun D H3 nD s3 e3 => ?_
    · walk_at "xx"
      exact h
    rw [Int.toNat_natCast] at e3
    walk_at "xx"
    refine ⟨a0, D, zs, _, 2, rfl, (s2.trans s3).seq hS1, lst_of e3, ⟨by rw [List.length_replicate]; omega, fun s hs => by rw [(List.mem_replicate.mp hs).2]; decide +kernel⟩, fun dp2 H4 dr2 s4 n4 e4 hd => ?_⟩
    have ld2 := hd.len
    rw [List.length_replicate] at ld2
    walk_at "xx"
    refine c_ints (lst_of e4) (fun x H N hN => ?_) (by omega) (fun _ => rfl) fun vp H5 vals nW s5 l5 e5 => ?_
    · walk_at "xx"
      refine ⟨x, rfl, fun r => ?_⟩
      exact hN r
    have lv : vals.length = n := by omega
    have S5 : Same H2 H5 := s3.trans (s4.trans s5)
    have e15 : H5 p = some (.lst [.int d0, .int d1, .int d2, .int d3, .int d4]) := S5 _ _ (s2 _ _ e1)
    have hS5 := (s2.trans S5).seq hS1
    have ed5 := S5 _ _ e2
    have td5 := t2.tk S5.tk
    clear S5 s2 s3 s4 s5 e1 hS1 hd e4 n4 e3 nD nW n2 e2 t2 ld2 l5 dr2
    walk_at "xx"
    refine s_cut (fun σ H' => ∃ (dp : Addr) (us : List V) (ds : List Df), σ = [some (.ref a0), some (.ref p), some (.int n), some (.ref dp), none, some (.ref vp), none, none, none, none, none, none, none, none, none, none] ∧ Same H5 H' ∧ H' dp = some (.lst us) ∧ TpAll H' us (ds.map dfD) ∧ (∀ d ∈ ds, InR n d) ∧ ds.length ≤ 20) ?_ (fun σ H6 p' => ?_)
    · walk_at "xx"
      refine iteI (fun e => ?_) (fun e => ?_)
      · walk_at "xx"
        rename_i cp H6 n6 s6 e6
        rw [cutTo _ (by omega), show (2 : Int).toNat = 2 from rfl] at e6
        refine c_tps (fun j => dfD ((j : Int), (j : Int) + 1, -(j : Int))) (fun j H1 N hj s1 hN => ?_) (by omega) (fun _ => rfl) fun ep H7 ue nE s7 e7 t7 => ?_
        · rw [Int.zero_add]
          walk_at "xx"
          rename_i tp H2 n2 s2 e2
          exact hN _ _ s2 (.tup e2 (by walk_at "tp"))
        rw [Int.toNat_natCast] at t7
        walk_at "xx"
        rename_i rp H8 n8 s8 e8
        have lus := td5.length
        have lue := t7.length
        rw [List.length_map] at lus
        rw [List.length_map, List.length_range] at lue
        refine o_addL ((s7.trans s8) _ _ e6) e8 (by rw [List.length_take, List.length_reverse]; exact lz (by omega)) fun qp H9 n9 s9 e9 => ?_
        have S9 : Same H5 H9 := s6.trans (s7.trans (s8.trans s9))
        have tr : TpAll H9 ue.reverse (((List.range n).reverse.map fun (j : Nat) => ((j : Int), (j : Int) + 1, -(j : Int))).map dfD) := by
          rw [List.map_map, List.map_reverse]
          exact tpRev (t7.tk (s8.trans s9).tk)
        have ttk : TpAll H9 (us.take 2) ((ds.take 2).map dfD) := by
          rw [List.map_take]
          exact tpTake (td5.tk S9.tk)
        walk_at "xx"
        refine ⟨qp, _, ds.take 2 ++ (List.range n).reverse.map fun (j : Nat) => ((j : Int), (j : Int) + 1, -(j : Int)), rfl, S9, e9, by rw [List.map_append]; exact tpApp ttk tr, fun d hd => ?_, by simp only [List.length_append, List.length_take, List.length_map, List.length_reverse, List.length_range]; omega⟩
        rcases List.mem_append.mp hd with hd | hd
        · exact hin d (List.mem_of_mem_take hd)
        · obtain ⟨j, hj, rfl⟩ := List.mem_map.mp hd
          have := List.mem_range.mp (List.mem_reverse.mp hj)
          refine ⟨?_, ?_, ?_, ?_⟩ <;> simp only <;> omega
      · walk_at "xx"
        exact ⟨dp, us, ds, rfl, Same.refl _, ed5, td5, hin, by omega⟩
    clear ed5 td5 hin ld ds us dp
    obtain ⟨dp, us, ds, rfl, s6, ed, td, hin, ld⟩ := p'
    have e16 := s6 _ _ e15
    have hS6 := s6.seq hS5
    have ev6 := s6 _ _ e5
    clear s6 e15 hS5 e5
    walk_at "xx"
    refine s_cut (fun σ H' => ∃ (dp : Addr) (us : List V) (ds : List Df), σ = [some (.ref a0), some (.ref p), some (.int n), some (.ref dp), none, some (.ref vp), none, none, none, none, none, none, none, none, none, none] ∧ Same H6 H' ∧ H' dp = some (.lst us) ∧ TpAll H' us (ds.map dfD) ∧ (∀ d ∈ ds, InR n d) ∧ ds.length ≤ 20) ?_ (fun σ H7 p' => ?_)
    · walk_at "xx"
      refine iteD (fun e => ?_) (fun e => ?_)
      · walk_at "xx"
        refine ⟨a0, dp, vp, zs, us, ds, vals, rfl, hS6, ed, td, ev6, by rw [lv]; exact hin, by omega, by omega, fun p' H8 us' ds' s8 n8 e8 t8 l8 r8 => ?_⟩
        walk_at "xx"
        exact ⟨p', us', ds', rfl, s8, e8, t8, by rw [lv] at r8; exact r8, by omega⟩
      · walk_at "xx"
        exact ⟨dp, us, ds, rfl, Same.refl _, ed, td, hin, ld⟩
    clear ed td hin ld ds us dp
    obtain ⟨dp, us, ds, rfl, s7, ed, td, hin, ld⟩ := p'
    have e17 := s7 _ _ e16
    have ev7 := s7 _ _ ev6
    clear s7 e16 hS6 ev6
    have lus := td.length
    rw [List.length_map] at lus
    walk_at "xx"
    refine k_make fun x dx H8 nx nd _ s8 e8 _ => ?_
    refine ⟨x, dx, n, rfl, e8, by omega, fun H9 S k9 hs _ nl _ _ => ⟨rfl, ?_⟩⟩
    have S9 : Same H7 H9 := fun b o e => k9 b o (fun h => by rw [List.mem_singleton.mp h, nx] at e; cases e) (s8 _ _ e)
    have nl7 : H7 S.dl = none := s8.free nl
    have xne : ∀ b o, H7 b = some o → b ≠ x ∧ b ≠ S.dl := fun b o e => ⟨ne_of_none e nx, ne_of_none e nl7⟩
    obtain ⟨xp, xpl⟩ := xne _ _ e17
    obtain ⟨xd, xdl⟩ := xne _ _ ed
    obtain ⟨xv, xvl⟩ := xne _ _ ev7
    have e19 := S9 _ _ e17
    have ed9 := S9 _ _ ed
    have td9 := td.tk S9.tk
    have ev9 := S9 _ _ ev7
    clear S9 nl7 xne k9 s8 e8 e17 ed td ev7 nl nx nd
    walk_at "xx"
    refine c_rows (n := ((n : Int) + 1).toNat) (fun i => (List.range (n + 1)).map fun j => oI (if i = j then some 0 else none)) (fun i H1 N hi s1 hN => ?_) (by omega) (fun _ => rfl) fun lp H10 rs nL s10 e10 lr hrows => ?_
    · rw [Int.zero_add]
      walk_at "xx"
      refine c_rngV (fun j => oI (if i = j then some 0 else none)) (fun j H3 N' hj hN' => ?_) (by omega) (fun _ => rfl) fun D2 H3 nD2 s3 e3 => ?_
      · rw [Int.zero_add]
        walk_at "xx"
        rename_i q1 H4 n4 s4 e4
        refine ix_pick e4 ?_
        have e0 : (if decide (V.int (i : Int) = V.int (j : Int)) = true then V.int 0 else V.non) = oI (if i = j then some 0 else none) := by
          by_cases h : i = j
          · rw [if_pos h, if_pos (by rw [h]; exact decide_eq_true rfl)]
            rfl
          · rw [if_neg h, if_neg (by rw [dI, decide_eq_true_iff]; omega)]
            rfl
        rw [e0]
        exact hN' _ s4
      · rw [show ((n : Int) + 1).toNat = n + 1 by omega] at e3
        exact hN _ _ s3 nD2 e3
    have hm : MatAt H10 lp rs n (bd (tab0 n)) := by
      refine MatAt.cong (B := fun i j => if i = j then some 0 else none) (mat_of e10 (by omega) fun i r g => (hrows i r g).2) fun i j hi hj => (tab0_bd hi hj).symm
    have es := hs.same s10
    have e1 := s10 _ _ e19
    have ed := s10 _ _ ed9
    have td := td9.tk s10.tk
    have ev := s10 _ _ ev9
    have hl1 : S.dl ≠ lp ∧ S.dl ∉ rs := by
      obtain ⟨_, h, _⟩ := hs.diffs
      refine ⟨ne_of_none h nL, fun hr => ?_⟩
      obtain ⟨j, hj, g⟩ := List.getElem_of_mem hr
      have := (hrows j _ (List.getElem?_eq_getElem hj)).1
      rw [g, h] at this
      cases this
    clear hrows nL s10 e19 ed9 td9 ev9 hs lr e10
    walk_at "xx"
    rename_i tk H11 n11 s11 e11
    refine b_lenL (lst_of (s11 _ _ ed)) ?_
    rw [lus]
    walk_at "xx"
    rw [Int.toNat_natCast]
    have hne : ∀ b o, H10 b = some o → b ≠ tk := fun b o e => ne_of_none e n11
    have ptk := hne _ _ e1
    have dtk := hne _ _ ed
    have vtk := hne _ _ ev
    have tkdl : tk ≠ S.dl := by
      obtain ⟨_, h, _⟩ := es.diffs
      exact (hne _ _ h).symm
    refine f_range (fun k σ H' => ∃ z4 z7 z8 z11 z12 z13 lp rs S' M, σ = [some (.ref a0), some (.ref p), some (.int n), some (.ref dp), z4, some (.ref vp), some (.ref x), z7, z8, some (.ref lp), some (.ref tk), z11, z12, z13, none, none] ∧
        H' p = some (.lst [.int d0, .int d1, .int d2, .int d3, .int d4]) ∧ H' dp = some (.lst us) ∧ TpAll H' us (ds.map dfD) ∧ H' vp = some (.lst (vals.map V.int)) ∧ SysAt K H' x S' n (ds.take k) M ∧ MatAt H' lp rs n (bd M) ∧ H' tk = some (.lst (us.take k)) ∧
        Cl n (bd M) ∧ Snd n (ds.take k) (bd M) ∧ Short M (2 ^ k - 1) ∧ S'.dl = S.dl ∧ tk ≠ S'.tp ∧ tk ∉ S'.rs ∧ tk ≠ lp ∧ tk ∉ rs ∧ S.dl ≠ lp ∧ S.dl ∉ rs)
      ⟨_, _, _, _, _, _, lp, rs, S, tab0 n, rfl, s11 _ _ e1, s11 _ _ ed, td.tk s11.tk, s11 _ _ ev, es.same s11, hm.same s11, e11, tab0_cl n, fun vals _ i j z hi hj hz => ?_, tab0_short n, rfl, (hne _ _ es.tab).symm, fun h => ?_, (hne _ _ hm.tab).symm, fun h => ?_, hl1.1, hl1.2⟩ (fun k σ H12 hk p' => ?_) (fun σ H12 p' => ?_)
    · rw [tab0_bd hi hj] at hz
      split at hz
      · cases hz
        rename_i h
        rw [h]
        omega
      · cases hz
    · obtain ⟨i, hi, g⟩ := List.getElem_of_mem h
      have hlt : i < (tab0 n).length := by rw [← es.len]; exact hi
      obtain ⟨cs, e, _⟩ := es.rows i _ _ (List.getElem?_eq_getElem hi) (List.getElem?_eq_getElem hlt)
      rw [g] at e
      exact hne _ _ e rfl
    · obtain ⟨i, hi, g⟩ := List.getElem_of_mem h
      have e := hm.rows i _ (List.getElem?_eq_getElem hi)
      rw [g] at e
      exact hne _ _ e rfl
    · clear hm es e1 ed td ev hl1 e11 hne n11 s11 lp rs
      obtain ⟨z4, z7, z8, z11, z12, z13, lp, rs, S', M, rfl, e1, ed, td, ev, es, hm, et, hcl, hsnd, hsh, hdl, t1, t2, t3, t4, t5, t6⟩ := p'
      have hk : k < ds.length := hk
      have pk : 2 ^ k ≤ 2 ^ 20 := Nat.pow_le_pow_right (by decide) (by omega)
      have pk1 : 2 ^ (k + 1) = 2 * 2 ^ k := by rw [Nat.pow_succ, Nat.mul_comm]
      have pk0 : 0 < 2 ^ k := Nat.pow_pos (by decide)
      have ltk : (ds.take k).length = k := by rw [List.length_take]; omega
      have itk : ∀ d ∈ ds.take k, InR n d := fun d hd => hin d (List.mem_of_mem_take hd)
      have ttk : TpAll H12 (us.take k) ((ds.take k).map dfD) := by rw [List.map_take]; exact tpTake td
      have gd : ds[k]? = some ds[k] := List.getElem?_eq_getElem hk
      have hd := hin _ (List.getElem_mem hk)
      have tks : ds.take (k + 1) = ds.take k ++ [ds[k]] := by rw [List.take_succ, gd]; rfl
      obtain ⟨uk, gu, tu⟩ := tpAt td gd
      have tus : us.take (k + 1) = us.take k ++ [uk] := by rw [List.take_succ, gu]; rfl
      rw [Int.zero_add]
      walk_at "xx"
      refine s_cut (fun σ' H' => σ' = [some (.ref a0), some (.ref p), some (.int n), some (.ref dp), some (.int k), some (.ref vp), some (.ref x), z7, z8, some (.ref lp), some (.ref tk), z11, z12, z13, none, none] ∧ Same H12 H') ?_ (fun σ' H13 p' => ?_)
      · walk_at "xx"
        refine iteI (fun e => ?_) (fun e => ?_)
        · walk_at "xx"
          refine ⟨x, tk, lp, vp, S', n, ds.take k, ds.take k, M, us.take k, rs, vals, rfl, es, et, ttk, hm, ev, lv, by omega, by omega, itk, hsnd, fun H' s' => ?_⟩
          walk_at "xx"
          exact ⟨rfl, s'⟩
        · walk_at "xx"
          exact ⟨rfl, Same.refl _⟩
      obtain ⟨rfl, s13⟩ := p'
      have e1 := s13 _ _ e1
      have ed := s13 _ _ ed
      have td := td.tk s13.tk
      have ev := s13 _ _ ev
      have es := es.same s13
      have hm := hm.same s13
      have et := s13 _ _ et
      have tu := tu.tk s13.tk
      clear s13 ttk
      obtain ⟨ua, _, _, _, rfl, eu, w1, w2, w3⟩ := WQ.tp3 tu
      cases w1
      cases w2
      cases w3
      obtain ⟨i0, i1, i2, i3⟩ := id hd
      have hx := es.ins
      walk_at "xx"
      refine o_ixL (lst_of ed) (atI_nat gu) ?_
      walk_at "xx"
      refine ix_mat hm i2 i3 fun r1 g1 er1 => ?_
      walk_at "xx"
      refine ix_row er1 i0 i1 ?_
      walk_at "xx"
      refine o_ixL (lst_of ed) (atI_nat gu) ?_
      walk_at "xx"
      have hx0 : ∀ b xs, H13 b = some (.lst xs) → b ≠ S.dl → b ∉ [x, S'.dl] := fun b xs e ne h => by
        rcases List.mem_cons.mp h with h | h
        · rw [h, hx] at e
          cases e
        · rw [hdl] at h
          exact ne (List.mem_singleton.mp h)
      have hbd : ringOf M ds[k] = none ∨ ∃ b bs, bd M ds[k].2.1.toNat ds[k].1.toNat = some b ∧ ringOf M ds[k] = some bs ∧ ds[k].2.2 + b < 0 := by
        unfold ringOf bd
        cases e : cell M ds[k].2.1.toNat ds[k].1.toNat with
        | none => exact .inl rfl
        | some b =>
          by_cases h : ds[k].2.2 + b.1 < 0
          · exact .inr ⟨b.1, b.2, rfl, if_pos h, h⟩
          · exact .inl (if_neg h)
      have hrg := ring_none (M := M) (d := ds[k])
      refine ⟨x, .ref ua, S', n, ds.take k, M, ds[k], 2 ^ k - 1, rfl, es, tu, hd, by omega, by omega, hsh, by omega, fun bs hbs p2 H14 k14 n14 e14 => ?_, fun hnr H14 S2 k14 es2 hdx hdl2 htp2 hrs2 => ?_⟩
      · obtain ⟨b, bs', hb, _, hlt⟩ : ∃ b bs, bd M ds[k].2.1.toNat ds[k].1.toNat = some b ∧ ringOf M ds[k] = some bs ∧ ds[k].2.2 + b < 0 := by
          rcases hbd with h | h
          · rw [hbs] at h
            cases h
          · exact h
        rw [hb, oI_some]
        walk_at "xx"
        refine iteNI (fun h => ?_) (fun _ => ?_)
        · exact absurd (by rw [decide_eq_true (show b + ds[k].2.2 < 0 by omega)]; rfl) h
        · walk_at "xx"
          exact q _
      · have hfin : ∀ b, bd M ds[k].2.1.toNat ds[k].1.toNat = some b → ¬ b + ds[k].2.2 < 0 := fun b hb => by
          have := hrg hnr b hb
          omega
        have e1 := k14 _ _ (hx0 _ _ e1 xpl) e1
        have ed' := k14 _ _ (hx0 _ _ ed xdl) ed
        have ev := k14 _ _ (hx0 _ _ ev xvl) ev
        have et13 := et
        have et := k14 _ _ (hx0 _ _ et tkdl) et
        have hm2 := hm.keep k14 (hx0 _ _ hm.tab (Ne.symm t5)) (fun r hr => by
          obtain ⟨i, hi, g⟩ := List.getElem_of_mem hr
          have := hm.rows i _ (List.getElem?_eq_getElem hi)
          rw [g] at this
          exact hx0 _ _ this (fun e => t6 (e ▸ hr)))
        have tk14 : TK H13 H14 := k14.tk fun a ha => by
          rcases List.mem_cons.mp ha with rfl | ha
          · exact ⟨_, hx, rfl⟩
          · obtain ⟨us', h, _⟩ := es.diffs
            rw [List.mem_singleton.mp ha]
            exact ⟨_, h, rfl⟩
        have td2 := td.tk tk14
        have tu2 := tu.tk tk14
        have e13 : ∀ b xs, H13 b = some (.lst xs) → b ≠ S'.tp → b ∉ S'.rs → b ≠ S2.tp ∧ b ∉ S2.rs := by
          intro b xs e n1 n2
          constructor
          · intro h
            rcases htp2 with h2 | h2
            · exact n1 (h.trans h2)
            · rw [← h, e] at h2
              cases h2
          · intro h
            rcases hrs2 b h with h2 | h2
            · exact n2 h2
            · rw [e] at h2
              cases h2
        obtain ⟨t1', t2'⟩ := e13 tk _ et13 t1 t2
        obtain ⟨M2, hM2⟩ : ∃ M2, M2 = tieM M ds[k] (ds.take k).length := ⟨_, rfl⟩
        have hb2 : ∀ i j, i ≤ n → j ≤ n → bd M2 i j = relax (bd M i j) (bd M i ds[k].1.toNat) ds[k].2.2 (bd M ds[k].2.1.toNat j) := fun i j hi hj => by rw [hM2]; exact tie_bd es.sq hcl hd hi hj
        have hc2 : Cl n (bd M2) := by rw [hM2]; exact tie_cl es.sq hcl hd hnr
        have hsh2 : Short M2 (2 ^ (k + 1) - 1) := by
          rw [hM2]
          have := tie_short (d := ds[k]) (k := (ds.take k).length) hsh
          rwa [show 2 * (2 ^ k - 1) + 1 = 2 ^ (k + 1) - 1 by omega] at this
        have hsn2 : Snd n (ds.take (k + 1)) (bd M2) := fun vals' hk' i j z hi hj hz => by
          rw [hb2 i j hi hj] at hz
          rw [tks] at hk'
          exact (hsnd.step hd) vals' hk' i j z hi hj hz
        rw [← hM2, ← tks] at es2
        clear hM2 hsnd hcl hsh hrg hbd k14 hrs2 htp2 tk14 e13 tu ed td es hm
        have fin : ∀ (b12 : V), (∀ H15 rs3 p3, Same H14 H15 → H14 p3 = none → (∀ r ∈ rs3, H14 r = none) → MatAt H15 p3 rs3 n (fun i j => relax (bd M i j) (bd M i ds[k].1.toNat) ds[k].2.2 (bd M ds[k].2.1.toNat j)) → ∀ H16, Chg tk H15 H16 → H16 tk = some (.lst (us.take k ++ [.ref ua])) →
            H16 p = some (.lst [.int d0, .int d1, .int d2, .int d3, .int d4]) ∧ H16 dp = some (.lst us) ∧ TpAll H16 us (ds.map dfD) ∧ H16 vp = some (.lst (vals.map V.int)) ∧ SysAt K H16 x S2 n (ds.take (k + 1)) M2 ∧ MatAt H16 p3 rs3 n (bd M2) ∧ H16 tk = some (.lst (us.take (k + 1))) ∧
            Cl n (bd M2) ∧ Snd n (ds.take (k + 1)) (bd M2) ∧ Short M2 (2 ^ (k + 1) - 1) ∧ S2.dl = S.dl ∧ tk ≠ S2.tp ∧ tk ∉ S2.rs ∧ tk ≠ p3 ∧ tk ∉ rs3 ∧ S.dl ≠ p3 ∧ S.dl ∉ rs3) := fun _ H15 rs3 p3 s15 n15 f15 m15 H16 c16 e16 => by
          have hdl3 : H14 S.dl ≠ none := fun h => by
            obtain ⟨_, h2, _⟩ := es2.diffs
            rw [hdl2, hdl, h] at h2
            cases h2
          have htk3 : H14 tk ≠ none := fun h => by
            rw [et] at h
            cases h
          have hx2 := es2.ins
          have k16 : TK H15 H16 := c16.tk (s15 _ _ et)
          refine ⟨c16.at (s15 _ _ e1) ptk, c16.at (s15 _ _ ed') dtk, td2.tk (s15.tk.trans k16), c16.at (s15 _ _ ev) vtk, ?_, ?_, by rw [e16, tus], hc2, hsn2, hsh2, hdl2.trans hdl, t1', t2', fun e => htk3 (e ▸ n15), fun e => htk3 (f15 _ e), fun e => hdl3 (e ▸ n15), fun e => hdl3 (f15 _ e)⟩
          · refine (es2.same s15).keep (A := [tk]) (Chg.but c16 (by simp)) k16 (fun h => ?_) (fun h => ?_) (fun h => t1' (List.mem_singleton.mp h).symm) (fun r hr h => t2' (List.mem_singleton.mp h ▸ hr))
            · rw [List.mem_singleton.mp h, et] at hx2
              cases hx2
            · exact tkdl (by rw [← List.mem_singleton.mp h, hdl2, hdl])
          · exact (m15.keep (A := [tk]) (Chg.but c16 (by simp)) (fun h => htk3 (List.mem_singleton.mp h ▸ n15)) (fun r hr h => htk3 (List.mem_singleton.mp h ▸ f15 r hr))).cong fun i j hi hj => (hb2 i j hi hj).symm
        have go : ∀ (hm' : MatAt H14 lp rs n (bd M)), True := fun _ => True.intro
        cases hb : bd M ds[k].2.1.toNat ds[k].1.toNat with
        | none =>
          rw [oI_none]
          walk_at "xx"
          refine o_ixL (lst_of ed') (atI_nat gu) ?_
          walk_at "xx"
          refine ⟨lp, .ref ua, rs, n, bd M, ds[k], rfl, hm2, tu2, hd, by omega, fun p3 H15 rs3 s15 n15 f15 m15 => ?_⟩
          walk_at "xx"
          refine m_ty (lst_of (s15 _ _ et)) ?_
          walk_at "xx"
          refine o_ixL (lst_of (s15 _ _ ed')) (atI_nat gu) ?_
          walk_at "xx"
          refine m_app (s15 _ _ et) (small1000' (by rw [List.length_take]; omega)) fun H16 c16 e16 => ?_
          exact ⟨_, _, _, _, _, _, p3, rs3, S2, M2, rfl, fin .non H15 rs3 p3 s15 n15 f15 m15 H16 c16 e16⟩
        | some b =>
          rw [oI_some]
          walk_at "xx"
          refine iteNI (fun h => ?_) (fun _ => ?_)
          · exact absurd (by rw [decide_eq_false (hfin b hb)]; rfl) h
          walk_at "xx"
          refine o_ixL (lst_of ed') (atI_nat gu) ?_
          walk_at "xx"
          refine ⟨lp, .ref ua, rs, n, bd M, ds[k], rfl, hm2, tu2, hd, by omega, fun p3 H15 rs3 s15 n15 f15 m15 => ?_⟩
          walk_at "xx"
          refine m_ty (lst_of (s15 _ _ et)) ?_
          walk_at "xx"
          refine o_ixL (lst_of (s15 _ _ ed')) (atI_nat gu) ?_
          walk_at "xx"
          refine m_app (s15 _ _ et) (small1000' (by rw [List.length_take]; omega)) fun H16 c16 e16 => ?_
          exact ⟨_, _, _, _, _, _, p3, rs3, S2, M2, rfl, fin .non H15 rs3 p3 s15 n15 f15 m15 H16 c16 e16⟩
    · clear hm es e1 ed td ev hl1 e11 hne n11 s11 lp rs
      obtain ⟨z4, z7, z8, z11, z12, z13, lp, rs, S', M, rfl, e1, ed, td, ev, es, hm, et, hcl, hsnd, hsh, hdl, t1, t2, t3, t4, t5, t6⟩ := p'
      walk_at "xx"
      refine k_make fun y dy H13 ny nd _ s13 e13 _ => ?_
      refine ⟨y, dy, 1, rfl, e13, by omega, fun H14 S2 k14 hs2 _ _ _ _ => ⟨rfl, ?_⟩⟩
      have S14 : Same H12 H14 := fun b o e => k14 b o (fun h => by rw [List.mem_singleton.mp h, ny] at e; cases e) (s13 _ _ e)
      have hy := hs2.ins
      walk_at "xx"
      refine ⟨y, S2, 1, [], tab0 1, 0, 1, rfl, hs2, by omega, by omega, by omega, by omega, ?_⟩
      have e0 : bd (tab0 1) (0 : Int).toNat (1 : Int).toNat = none := tab0_bd (by decide) (by decide)
      rw [e0, oI_none]
      walk_at "xx"
      have es14 := es.same S14
      have hx14 := es14.ins
      have hds : ds.take ds.length = ds := List.take_length
      rw [hds] at hsnd es14
      have hus : us.take ds.length = us := by rw [← lus]; exact List.take_length
      rw [hus] at et
      exact ⟨x, tk, lp, vp, S', n, ds, ds, M, us, rs, vals, rfl, es14, S14 _ _ et, td.tk S14.tk, hm.same S14, S14 _ _ ev, lv, by omega, by omega, hin, hsnd, fun H' _ => q _⟩
end
end K16
open PySem PySem.W PySem.Calls PyProof.Rows
set_option maxHeartbeats 0 in
theorem PySem.Challenge.cw_wayorring_k16_bounds_are_closed_holds : PySem.Challenge.rw_wayorring_k16_bounds_are_closed.Holds := by
  w_on; o_law
  refine HandSHeadRun.head_any (r := OpenLaw.row PySem.Challenge.rw_wayorring_k16_bounds_are_closed) (q := view (OpenLaw.row PySem.Challenge.rw_wayorring_k16_bounds_are_closed).prog [16]) (H := K16.hk) (ob := K16.ob) (M := 20000) (loose := K16.loose) (d := HandSHeadRun.topDef (OpenLaw.row PySem.Challenge.rw_wayorring_k16_bounds_are_closed).prog 16) (kwd := []) K16.ob_eq
    (by kernel_rfl) (fun s => by kernel_rfl) K16.run (by kernel_rfl) (by kernel_rfl) (by kernel_rfl) (by rfl) (by first | assumption | decide +kernel) (by decide +kernel) ⟨rfl, rfl, rfl, rfl, rfl, by decide +kernel⟩ ?hw ?hc
  case hw => w_witness2
  case hc =>
    refine L2.walk_ofE (l := PySem.Challenge.rw_wayorring_k16_bounds_are_closed) (n := 63) (k := 6) (x := "script") (CX := L2.CX0) rfl (by decide) (by kernel_rfl) ⟨rfl, by decide, by decide⟩ ?F (fun _ _ _ _ z => z)
    intro w mg fa h Y G hmg0
    obtain ⟨K, KX, c⟩ := Y
    have hmg : mg ("law" : PySem.Str) = some (.ref fa) := by
      have e : (HandSHeadRun.topDef (OpenLaw.row PySem.Challenge.rw_wayorring_k16_bounds_are_closed).prog 16).name = ("law" : PySem.Str) := by kernel_rfl
      rw [← e]
      exact hmg0
    have T := K16.tx_of KX G c
    obtain ⟨f, fd, F, e2⟩ := T.d_law.ex
    have e3 := hmg.symm.trans e2
    cases e3
    exact ⟨K, fd, K16.spLaw K, KX, fun s v => L2.FunD.bindsA (ps := ["script"]) F (fun _ _ _ _ _ _ us hl => match us, hl with | [_], _ => rfl) s [v] rfl, fun H a ns hl _ hS => ⟨a, ns, rfl, hS, hl, fun _ => rfl⟩, fun base _ _ => K16.ok_law T F⟩

