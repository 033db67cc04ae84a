import PyProof.Rows.All
import Wide.All
import OpenK.AllK
import Wide.FinOn
import KE.KStateDown
import HandS.ForMost
import HandS.IsInst
import HandS.Codes
import HandS.Exc
import HandS.Defaults
import HandS.Head0
import HandS.Head1
import HandS.Head2
import HandS.HeadEnd
import HandS.HeadHook1
import HandS.HeadHook2
import HandS.HeadHook3
import HandS.HeadHook4
import HandS.FStr
import HandS.Dict
import HandS.More
import Wide.Once
import HandS.Conv
import HandS.Wide
import HandS.Style
import HandS.Star
import HandS.TupAny
import PyProof.ReprRoads
import PyProof.ReprLen
import PyProof.P3Eq
import HandS.Walk
import HandS.Iter
import HandS.Deep
import PySem.Challenge.RW_wayorring_k17_whole_ties
set_option Elab.async false
set_option linter.all false
set_option maxRecDepth 100000
set_option maxHeartbeats 8000000
/-! Wy: rules that take operands of several kinds, and steps. -/
namespace Wy
open PySem PySem.Spec PyProof.Rows L2
section
variable {X : Cx}
theorem CallR.or {f : Value} {r r' : List V → Hp → VK → Prop} (h : CallR X f r) (h' : CallR X f r') : CallR X f (fun xs H Q => r xs H Q ∨ r' xs H Q) := by
  intro pins s σ H xs us Q I rv q
  rcases q with q | q
  · exact h pins s σ H xs us Q I rv q
  · exact h' pins s σ H xs us Q I rv q
/-- k times a text -/
def repS (z : Str) (k : Int) : Str := ⟨(List.replicate k.toNat z.cps.toList).flatten.toArray⟩
theorem foldl_rep (a : Array Nat) : ∀ (n : Nat) (acc : Array Nat), ((List.replicate n a).foldl (· ++ ·) acc) = (acc.toList ++ (List.replicate n a.toList).flatten).toArray
  | 0, acc => by simp
  | n + 1, acc => by
    rw [List.replicate_succ, List.foldl_cons, foldl_rep a n, List.replicate_succ, List.flatten_cons]
    simp
theorem repS_eq (z : Str) (n : Int) : (⟨(List.replicate n.toNat z.cps).foldl (· ++ ·) #[]⟩ : Str) = repS z n := by
  unfold repS
  rw [foldl_rep]
  simp
def rMulSI : R2 := fun x y H Q => ∃ z k, x = .str z ∧ y = .int k ∧ 0 ≤ k ∧ k ≤ 1000 ∧ z.length ≤ 1000 ∧ Q (.str (repS z k)) H
theorem op_mulSI : OpR X (binaryOp .Mult) rMulSI := by
  intro pins s σ H x y v u Q I rx ry h
  obtain ⟨z, k, rfl, rfl, h0, h1, h2, q⟩ := h
  obtain ⟨t, rfl⟩ := rx
  obtain ⟨t', rfl⟩ := ry
  have hs : sizeLine = 16777216 := sizeLine_eq
  refine PySem.P.mul_str ?_ (fun a b => ?_) (fun a b => ?_) ?_
  · rw [decide_eq_false (by omega), decide_eq_false (by omega)]
    rfl
  · have h3 : (1000 : Int) ≤ (2 ^ 63 - 1) / k := (Int.le_ediv_iff_mul_le (by omega)).mpr (by omega)
    omega
  · unfold Builtin.Str.tooLong
    rw [decide_eq_false_iff_not]
    have h4 : z.length * k.toNat ≤ 1000 * 1000 := Nat.mul_le_mul h2 (by omega)
    omega
  · by_cases a : k < 1
    · have ek : k = 0 := by omega
      subst ek
      rw [if_pos a]
      have e : repS z 0 = Str.empty := rfl
      rw [e] at q
      exact ⟨by decide, .str Str.empty, H, I.tok _, ⟨_, rfl⟩, q⟩
    · rw [if_neg a]
      by_cases b : (k == 1 || z.length == 0) = true
      · rw [if_pos b]
        have e : repS z k = z := by
          rcases Bool.or_eq_true_iff.mp b with b | b
          · have e1 : k = 1 := by simpa using b
            subst e1
            unfold repS
            simp
          · have e1 : z.length = 0 := by simpa using b
            have e2 : z.cps = #[] := by simpa [Str.length] using e1
            obtain ⟨c⟩ := z
            unfold repS
            simp at e2
            subst e2
            simp
        rw [e] at q
        exact ⟨.str z, H, I, ⟨_, rfl⟩, q⟩
      · rw [if_neg b, repS_eq]
        refine ⟨?_, .str (repS z k), H, I.tok _, ⟨_, rfl⟩, q⟩
        have h4 : (repS z k).length = k.toNat * z.length := by
          unfold repS
          simp [Str.length, List.length_flatten, List.map_replicate, List.sum_replicate_nat]
        rw [h4]
        have h5 : k.toNat * z.length ≤ 1000 * 1000 := Nat.mul_le_mul (by omega) h2
        omega
/-- + of two ints, two texts, two lists -/
def rAddS : R2 := fun x y H Q => ∃ i j, x = .str i ∧ y = .str j ∧ i.length + j.length ≤ sizeLine ∧ Q (.str (i ++ j)) H
def rAddI : R2 := rI0 fun i j => .int (i + j)
def rAdd3 : R2 := fun x y H Q => rAddI x y H Q ∨ rAddS x y H Q ∨ rCat x y H Q
theorem op_add3 : OpR X (binaryOp .Add) rAdd3 := op_add.or (op_add_str.or op_cat)
def rMul2 : R2 := fun x y H Q => rI CMul (fun i j => .int (i * j)) x y H Q ∨ rMulSI x y H Q
theorem op_mul2 : OpR X (binaryOp .Mult) rMul2 := op_mul.or op_mulSI
/-- == -/
def rEq2 (K : PySem.W.Frag) : R2 := fun x y H Q => rEq x y H Q ∨ rEqD K x y H Q
theorem op_eq2 (hu : X.A.units + 64 < cLine) : OpR X (compareOp .Eq) (rEq2 X.K) := op_eq.or (op_eqD hu)
def rNe2 (K : PySem.W.Frag) : R2 := fun x y H Q => rNe x y H Q ∨ rNeD K x y H Q
theorem op_ne2 (hu : X.A.units + 64 < cLine) : OpR X (compareOp .NotEq) (rNe2 X.K) := op_ne.or (op_neD hu)
/-- in: a sign in a text; a flat item in a list or tuple -/
def rInS : R2 := fun x y H Q => ∃ (c : Nat) (z : Str), x = .str ⟨#[c]⟩ ∧ y = .str z ∧ Q (.bl (decide (c ∈ z.cps.toList))) H
def rNiS : R2 := fun x y H Q => ∃ (c : Nat) (z : Str), x = .str ⟨#[c]⟩ ∧ y = .str z ∧ Q (.bl (!decide (c ∈ z.cps.toList))) H
def rIn2 (K : PySem.W.Frag) : R2 := fun x y H Q => rInS x y H Q ∨ rIn K false x y H Q
def rNi2 (K : PySem.W.Frag) : R2 := fun x y H Q => rNiS x y H Q ∨ rIn K true x y H Q
theorem op_in2 : OpR X (compareOp .In) (rIn2 X.K) := op_in_sign.or op_in_seq
theorem op_ni2 : OpR X (compareOp .NotIn) (rNi2 X.K) := op_notIn_sign.or op_notIn_seq
def rSl2 (K : PySem.W.Frag) : V → Option Int → Option Int → Hp → VK → Prop := fun x lo hi H Q => rSlS x lo hi H Q ∨ rSlL K x lo hi H Q
theorem sl_2 : SlR X (rSl2 X.K) := sl_str.or sl_list
def rInt : List V → Hp → VK → Prop := fun xs H Q => ((∃ i, xs = [.int i] ∧ Q (.int i) H) ∨ ∃ k, xs = [.bl k] ∧ Q (.int (if k then 1 else 0)) H) ∨ ∃ a n, xs = [.str a] ∧ PySem.intText? a = some n ∧ a.length ≤ 640 ∧ Q (.int n) H
theorem call_int2 : CallR X (.type "int") rInt := CallR.or call_int1 call_int_str
def rAbs : List V → Hp → VK → Prop := fun xs H Q => ∃ i, xs = [.int i] ∧ Q (.int (if i < 0 then -i else i)) H
theorem call_abs2 : CallR X (.builtin "abs") rAbs := call_abs
def rLn (K : PySem.W.Frag) : List V → Hp → VK → Prop := fun xs H Q => ∃ x n, xs = [x] ∧ LenV K x H n ∧ Q (.int n) H
theorem call_len2 : CallR X (.builtin "len") (rLn X.K) := call_len
def tTr (K : PySem.W.Frag) (ta : TE) : TT := fun σ H Q => ta σ H fun x H' => ∃ k, TruV K x H' k ∧ Q k H'
theorem pt_tr {e : Expr} {te : TE} (h : PE X e te) (he : ∀ whole, isTrue e X.env whole = (do let v ← whole; standAt e.pos; holding [v] (truthy v)) := by intro _; rfl) : PT X e (tTr X.K te) := pt_truth h he
end

/-! ### what a heap keeps -/
/-- only at l -/
def Chg (l : Addr) (H H' : Hp) : Prop := ∀ b, b ≠ l → H' b = H b
theorem same_new {H : Hp} {p : Addr} {o : HO} (h : H p = none) : Same H (upd H p o) := fun b x e => by
  rw [upd_ne (ne_of_none e h)]
  exact e
theorem chg_upd {H : Hp} {p : Addr} {o : HO} : Chg p H (upd H p o) := fun b e => by rw [upd_ne e]
theorem Chg.same {l : Addr} {H0 H H' : Hp} (c : Chg l H H') (s : Same H0 H) (n : H0 l = none) : Same H0 H' := fun b o e => by
  rw [c b (ne_of_none e n)]
  exact s b o e
theorem Chg.at {l b : Addr} {H H' : Hp} {o : HO} (c : Chg l H H') (e : H b = some o) (n : b ≠ l) : H' b = some o := by
  rw [c b n]
  exact e
theorem new_same {H : Hp} {o : HO} {Q : VK} (h : ∀ p H2, H p = none → Same H H2 → H2 p = some o → Q (.ref p) H2) : ∀ p, H p = none → Q (.ref p) (upd H p o) :=
  fun p np => h p _ np (same_new np) upd_same
theorem lst_of {K : PySem.W.Frag} {H : Hp} {a : Addr} {xs : List V} (h : H a = some (.lst xs)) : SqL K H a xs := .inl (.inl h)
theorem tup_of {K : PySem.W.Frag} {H : Hp} {a : Addr} {xs : List V} (h : H a = some (.tup xs)) : SqT K H a xs := .inl (.inl h)
theorem seqT {K : PySem.W.Frag} {H H' : Hp} {a : Addr} {xs : List V} (e : Same H H') (h : SqT K H a xs) : SqT K H' a xs := by
  rcases h with (h | ⟨o, h⟩) | h
  · exact .inl (.inl (e _ _ h))
  · exact .inl (.inr ⟨o, e _ _ h⟩)
  · exact .inr h
/-! ### steps -/
def KBl (x : V) (H : Hp) (QT : Bool → Hp → Prop) : Prop := ∃ k, x = .bl k ∧ QT k H
def KTr (K : PySem.W.Frag) (x : V) (H : Hp) (QT : Bool → Hp → Prop) : Prop := ∃ k, TruV K x H k ∧ QT k H
def KInt (x : V) (H : Hp) (QO : Option Int → Hp → Prop) : Prop := ∃ i, x = .int i ∧ QO (some i) H
def KR1 (vs : List V) (H : Hp) (R : It → Hp → Prop) : Prop := ∃ j : Int, vs = [.int j] ∧ -(2 ^ 62) ≤ j ∧ j < 2 ^ 62 ∧ R (Itr 0 j.toNat) H
def KR2 (vs : List V) (H : Hp) (R : It → Hp → Prop) : Prop := ∃ i j : Int, vs = [.int i, .int j] ∧ (-(2 ^ 62) ≤ i ∧ i < 2 ^ 62 ∧ -(2 ^ 62) ≤ j ∧ j < 2 ^ 62) ∧ R (Itr i (j - i).toNat) H
def KL (K : PySem.W.Frag) (x : V) (H : Hp) (R : It → Hp → Prop) : Prop := ∃ a, x = .ref a ∧ (∃ xs, SqL K H a xs) ∧ R (Itl K a) H
def KT (K : PySem.W.Frag) (x : V) (H : Hp) (R : It → Hp → Prop) : Prop := ∃ a, x = .ref a ∧ (∃ xs, SqT K H a xs) ∧ R (Itt K a) H
def KS (x : V) (H : Hp) (R : It → Hp → Prop) : Prop := ∃ z, x = .str z ∧ R (Its z) H
def NewO (n : Nat) (o : HO) (H : Hp) (Q : VK) : Prop := n ≤ sizeLine ∧ ∀ p, H p = none → Q (.ref p) (upd H p o)
def COut (D : Addr) (y : V) (H : Hp) (N : Hp → Prop) : Prop := ∃ acc, H D = some (.lst acc) ∧ acc.length < sizeLine ∧ N (upd H D (.lst (acc ++ [y])))
def KWh (W : Nat → L2.St → Hp → Prop) (m : Nat) (t : TS) (D : Ends) (σ : L2.St) (H : Hp) : Prop := ∃ N : L2.St → Hp → Prop, (∀ σ' H', N σ' H' → ∃ m', m' < m ∧ W m' σ' H') ∧ t ⟨N, D.rt, D.nx, N⟩ σ H
section
variable {K : PySem.W.Frag} {σ : L2.St} {H : Hp} {Q : VK} {QT : Bool → Hp → Prop} {D : Ends} {t u : TS} {c c' : TT} {te ta tb : TE} {g : TG} {v x y : V} {i : Nat} {b : Bool} {QA : List V → Hp → Prop}
theorem s_seq (h : t ⟨u D, D.rt, D.bk, D.ct⟩ σ H) : tSeq t u D σ H := h
theorem s_asg (h : te σ H fun x H1 => g x σ H1 D.nx) : tAsg te g D σ H := h
theorem g_name {QS : L2.St → Hp → Prop} (h : QS (σ.set i (some v)) H) : gName i v σ H QS := h
theorem s_ret (h : te σ H D.rt) : tRet te D σ H := h
theorem s_retN (h : D.rt .non H) : tRetN D σ H := h
theorem s_drop (h : te σ H fun _ H1 => D.nx σ H1) : tDrop te D σ H := h
theorem s_if (h : c σ H fun b H1 => if b = true then t D σ H1 else u D σ H1) : tIfS c t u D σ H := h
theorem s_next (h : D.nx σ H) : tNext D σ H := h
theorem s_brk (h : D.bk σ H) : tBreak D σ H := h
theorem s_ct (h : D.ct σ H) : tCont D σ H := h
theorem s_aug {ti : TIp} (e : σ[i]? = some (some x)) (h : te σ H fun y H1 => ti x y H1 fun z H2 => D.nx (σ.set i (some z)) H2) : tAug i te ti D σ H := ⟨x, e, h⟩
theorem i_add {i j : Int} {f : Int → Int → Int} (h : Q (.int (f i j)) H) : ipI f (.int i) (.int j) H Q := ⟨i, j, rfl, rfl, h⟩
theorem s_cut (M : L2.St → Hp → Prop) (h : t ⟨M, D.rt, D.bk, D.ct⟩ σ H) (k : ∀ σ' H', M σ' H' → u D σ' H') : C8.tCut t u D σ H := ⟨M, h, k⟩
theorem e_var (e : σ[i]? = some (some v)) (h : Q v H) : tVar i σ H Q := ⟨v, e, h⟩
theorem e_c (h : Q v H) : tC v σ H Q := h
theorem e_op {r : R2} (h : ta σ H fun x H1 => tb σ H1 fun y H2 => r x y H2 Q) : tOp r ta tb σ H Q := h
theorem e_un {r : V → Hp → VK → Prop} (h : ta σ H fun x H1 => r x H1 Q) : tUn r ta σ H Q := h
theorem o_addI {i j : Int} (h : Q (.int (i + j)) H) : rAdd3 (.int i) (.int j) H Q := .inl ⟨i, j, rfl, rfl, h⟩
theorem o_addS {i j : Str} (hz : i.length + j.length ≤ sizeLine) (h : Q (.str (i ++ j)) H) : rAdd3 (.str i) (.str j) H Q := .inr (.inl ⟨i, j, rfl, rfl, hz, h⟩)
theorem o_addL {a a' : Addr} {xs ys : List V} (ha : H a = some (.lst xs)) (hb : H a' = some (.lst ys)) (hz : xs.length + ys.length ≤ sizeLine) (h : ∀ p H2, H p = none → Same H H2 → H2 p = some (.lst (xs ++ ys)) → Q (.ref p) H2) :
    rAdd3 (.ref a) (.ref a') H Q := .inr (.inr ⟨a, a', xs, ys, rfl, rfl, ha, hb, hz, new_same h⟩)
theorem o_mulI {i j : Int} (hc : CMul i j) (h : Q (.int (i * j)) H) : rMul2 (.int i) (.int j) H Q := .inl ⟨i, j, rfl, rfl, hc, h⟩
theorem o_mulI1 {i j : Int} (h1 : -(2 ^ 64) < i) (h2 : i < 2 ^ 64) (h : Q (.int (i * j)) H) : rMul2 (.int i) (.int j) H Q := o_mulI (.inl ⟨h1, h2⟩) h
theorem o_mulI2 {i j : Int} (h1 : -(2 ^ 64) < j) (h2 : j < 2 ^ 64) (h : Q (.int (i * j)) H) : rMul2 (.int i) (.int j) H Q := o_mulI (.inr ⟨h1, h2⟩) h
theorem o_mod {f : Int → Int → V} {i j : Int} (h1 : 0 < j) (h : Q (f i j) H) : rI (fun _ j => 0 < j) f (.int i) (.int j) H Q := ⟨i, j, rfl, rfl, h1, h⟩
theorem o_fdiv {f : Int → Int → V} {i j : Int} (h1 : 0 < j) (h2 : j < 1073741824) (h : Q (f i j) H) : rI CDiv f (.int i) (.int j) H Q := ⟨i, j, rfl, rfl, ⟨h1, h2⟩, h⟩
theorem o_pow {f : Int → Int → V} {i j : Int} (h1 : 0 ≤ j) (h2 : j ≤ 1000000) (h3 : i.natAbs < 2 ^ 64) (h : Q (f i j) H) : rI CPow f (.int i) (.int j) H Q := ⟨i, j, rfl, rfl, ⟨h1, h2, h3⟩, h⟩
theorem o_mulS {z : Str} {k : Int} (h0 : 0 ≤ k) (h1 : k ≤ 1000) (h2 : z.length ≤ 1000) (h : Q (.str (repS z k)) H) : rMul2 (.str z) (.int k) H Q := .inr ⟨z, k, rfl, rfl, h0, h1, h2, h⟩
theorem o_I0 {f : Int → Int → V} {i j : Int} (h : Q (f i j) H) : rI0 f (.int i) (.int j) H Q := ⟨i, j, rfl, rfl, h⟩
theorem o_I {C : Int → Int → Prop} {f : Int → Int → V} {i j : Int} (hc : C i j) (h : Q (f i j) H) : rI C f (.int i) (.int j) H Q := ⟨i, j, rfl, rfl, hc, h⟩
theorem o_eqS (hs : scal x y = true) (h : Q (.bl (decide (x = y))) H) : rEq2 K x y H Q := .inl ⟨hs, h⟩
theorem o_neS (hs : scal x y = true) (h : Q (.bl (!decide (x = y))) H) : rNe2 K x y H Q := .inl ⟨hs, h⟩
theorem o_eqD {d e : PyData} (h1 : Dp K H x d) (h2 : Dp K H y e) (h3 : SeqAt.shaped d = true) (h4 : SeqAt.shaped e = true) (h : Q (.bl (PyData.eqv d e)) H) : rEq2 K x y H Q := .inr ⟨d, e, h1, h2, h3, h4, h⟩
theorem o_neD {d e : PyData} (h1 : Dp K H x d) (h2 : Dp K H y e) (h3 : SeqAt.shaped d = true) (h4 : SeqAt.shaped e = true) (h : Q (.bl (!PyData.eqv d e)) H) : rNe2 K x y H Q := .inr ⟨d, e, h1, h2, h3, h4, h⟩
theorem o_inS {k : Nat} {z : Str} (h : Q (.bl (decide (k ∈ z.cps.toList))) H) : rIn2 K (.str ⟨#[k]⟩) (.str z) H Q := .inl ⟨k, z, rfl, rfl, h⟩
theorem o_niS {k : Nat} {z : Str} (h : Q (.bl (!decide (k ∈ z.cps.toList))) H) : rNi2 K (.str ⟨#[k]⟩) (.str z) H Q := .inl ⟨k, z, rfl, rfl, h⟩
theorem o_inT {a : Addr} {xs : List V} (hs : SqT K H a xs) (hf : flatV x = true) (hg : xs.all flatV = true) (h : Q (.bl (inV x xs)) H) : rIn2 K x (.ref a) H Q := .inr ⟨a, xs, rfl, .inr hs, hf, hg, h⟩
theorem o_inL {a : Addr} {xs : List V} (hs : SqL K H a xs) (hf : flatV x = true) (hg : xs.all flatV = true) (h : Q (.bl (inV x xs)) H) : rIn2 K x (.ref a) H Q := .inr ⟨a, xs, rfl, .inl hs, hf, hg, h⟩
theorem o_niT {a : Addr} {xs : List V} (hs : SqT K H a xs) (hf : flatV x = true) (hg : xs.all flatV = true) (h : Q (.bl (!inV x xs)) H) : rNi2 K x (.ref a) H Q := .inr ⟨a, xs, rfl, .inr hs, hf, hg, h⟩
theorem o_niL {a : Addr} {xs : List V} (hs : SqL K H a xs) (hf : flatV x = true) (hg : xs.all flatV = true) (h : Q (.bl (!inV x xs)) H) : rNi2 K x (.ref a) H Q := .inr ⟨a, xs, rfl, .inl hs, hf, hg, h⟩
def rIsN : R2 := fun x y H Q => y = .non ∧ Q (.bl (decide (x = .non))) H
def rNtN : R2 := fun x y H Q => y = .non ∧ Q (.bl (!decide (x = .non))) H
theorem op_isN2 {X : Cx} : OpR X (compareOp .Is) rIsN := op_isN
theorem op_ntN2 {X : Cx} : OpR X (compareOp .IsNot) rNtN := op_notN
theorem o_isN (h : Q (.bl (decide (x = .non))) H) : rIsN x .non H Q := ⟨rfl, h⟩
theorem o_ntN (h : Q (.bl (!decide (x = .non))) H) : rNtN x .non H Q := ⟨rfl, h⟩
theorem o_ixL {a : Addr} {xs : List V} {j : Int} (hs : SqL K H a xs) (e : atI xs j = some v) (h : Q v H) : rIx K (.ref a) (.int j) H Q := .inl ⟨a, xs, j, v, rfl, rfl, hs, e, h⟩
theorem o_ixT {a : Addr} {xs : List V} {j : Int} (hs : SqT K H a xs) (e : atI xs j = some v) (h : Q v H) : rIx K (.ref a) (.int j) H Q := .inr (.inl ⟨a, xs, j, v, rfl, rfl, hs, e, h⟩)
theorem o_ixS {z : Str} {j : Int} {k : Nat} (hz : z.length ≤ sizeLine) (e : atI z.cps.toList j = some k) (h : Q (.str ⟨#[k]⟩) H) : rIx K (.str z) (.int j) H Q := .inr (.inr ⟨z, j, k, rfl, rfl, hz, e, h⟩)
theorem u_neg {i : Int} {f : Int → V} (h : Q (f i) H) : rU f (.int i) H Q := ⟨i, rfl, h⟩
theorem t_test (h : te σ H fun x H' => KBl x H' QT) : tTest te σ H QT := h
theorem t_b (h : te σ H fun x H' => KBl x H' QT) : tB te σ H QT := h
theorem k_bl (h : QT b H) : KBl (.bl b) H QT := ⟨b, rfl, h⟩
theorem t_tr (h : te σ H fun x H' => KTr K x H' QT) : tTr K te σ H QT := h
theorem k_trB (h : QT b H) : KTr K (.bl b) H QT := ⟨b, rfl, h⟩
theorem k_trN (h : QT false H) : KTr K .non H QT := ⟨false, rfl, h⟩
theorem k_trI {i : Int} (h : QT (i != 0) H) : KTr K (.int i) H QT := ⟨_, rfl, h⟩
theorem k_trL {a : Addr} {xs : List V} (hs : SqL K H a xs) (h : QT (!xs.isEmpty) H) : KTr K (.ref a) H QT := ⟨_, .inl ⟨xs, hs, rfl⟩, h⟩
theorem k_trT {a : Addr} {xs : List V} (hs : SqT K H a xs) (h : QT (!xs.isEmpty) H) : KTr K (.ref a) H QT := ⟨_, .inr (.inl ⟨xs, hs, rfl⟩), h⟩
theorem t_and (h : c σ H fun b H1 => if b = true then c' σ H1 QT else QT false H1) : tAnd c c' σ H QT := h
theorem t_or (h : c σ H fun b H1 => if b = true then QT true H1 else c' σ H1 QT) : tOr c c' σ H QT := h
theorem t_not (h : c σ H fun b H1 => QT (!b) H1) : tNot c σ H QT := h
theorem e_andV (h : ta σ H fun x H1 => KBl x H1 fun b H2 => if b = true then tb σ H2 Q else Q (.bl false) H2) : tAndV ta tb σ H Q := h
theorem e_orV (h : ta σ H fun x H1 => KBl x H1 fun b H2 => if b = true then Q (.bl true) H2 else tb σ H2 Q) : tOrV ta tb σ H Q := h
theorem e_notV (h : ta σ H fun x H1 => KBl x H1 fun b H2 => Q (.bl (!b)) H2) : tNotV ta σ H Q := h
theorem e_if (h : c σ H fun b H1 => if b = true then ta σ H1 Q else tb σ H1 Q) : tIf c ta tb σ H Q := h
theorem e_chain {r r' : R2} {tc : TE} (h : ta σ H fun x H1 => tb σ H1 fun y H2 => r x y H2 fun z H3 => KBl z H3 fun k H3 => if k = true then tc σ H3 fun w' H4 => r' y w' H4 Q else Q (.bl false) H3) : tChain r r' ta tb tc σ H Q := h
theorem a_nil (h : QA [] H) : tNil σ H QA := h
theorem a_cons {tr : TA} (h : te σ H fun x H1 => tr σ H1 fun xs H2 => QA (x :: xs) H2) : tCons te tr σ H QA := h
theorem c_b {r : List V → Hp → VK → Prop} {tl : TA} (h : tl σ H fun vs H1 => r vs H1 Q) : tCB r tl σ H Q := h
theorem c_call {sp : Sp} {dvs : List V} {E : XK} {tl : TA} (h : tl σ H fun vs H1 => sp (vs ++ dvs) H1 Q E) : tCall sp dvs E tl σ H Q := h
theorem b_lenS {z : Str} (hz : z.length ≤ sizeLine) (h : Q (.int z.length) H) : rLn K [.str z] H Q := ⟨_, z.length, rfl, ⟨hz, rfl⟩, h⟩
theorem b_lenL {a : Addr} {xs : List V} (hs : SqL K H a xs) (h : Q (.int xs.length) H) : rLn K [.ref a] H Q := ⟨_, xs.length, rfl, .inl ⟨xs, hs, rfl⟩, h⟩
theorem b_lenT {a : Addr} {xs : List V} (hs : SqT K H a xs) (h : Q (.int xs.length) H) : rLn K [.ref a] H Q := ⟨_, xs.length, rfl, .inr ⟨xs, hs, rfl⟩, h⟩
theorem b_int {i : Int} (h : Q (.int i) H) : rInt [.int i] H Q := .inl (.inl ⟨i, rfl, h⟩)
theorem b_intB (h : Q (.int (if b then 1 else 0)) H) : rInt [.bl b] H Q := .inl (.inr ⟨b, rfl, h⟩)
theorem b_intS {z : Str} {n : Int} (e : PySem.intText? z = some n) (hl : z.length ≤ 640) (h : Q (.int n) H) : rInt [.str z] H Q := .inr ⟨z, n, rfl, e, hl, h⟩
theorem b_abs {i : Int} (h : Q (.int (if i < 0 then -i else i)) H) : rAbs [.int i] H Q := ⟨i, rfl, h⟩
theorem b_isi {n : String} {x : V} {tv : Value} (ty : TyX K H x tv) (h : PySem.W.kitOne K tv (.type n) = some b) (q : Q (.bl b) H) : rIsi K [x, .ty n] H Q := ⟨x, .ty n, tv, .type n, b, rfl, .ty n, ty, h, q⟩
theorem e_tup {tl : TA} (h : tl σ H fun xs H1 => NewO xs.length (.tup xs) H1 Q) : tTup tl σ H Q := h
theorem e_lst {tl : TA} (h : tl σ H fun xs H1 => NewO xs.length (.lst xs) H1 Q) : tLst tl σ H Q := h
theorem n_obj {n : Nat} {o : HO} (hz : n ≤ sizeLine) (h : ∀ p H2, H p = none → Same H H2 → H2 p = some o → Q (.ref p) H2) : NewO n o H Q := ⟨hz, new_same h⟩
theorem e_sl {r : V → Option Int → Option Int → Hp → VK → Prop} {tl th : TO} (h : te σ H fun x H1 => tl σ H1 fun l H2 => th σ H2 fun u H3 => r x l u H3 Q) : tSl r te tl th σ H Q := h
theorem p_no {QO : Option Int → Hp → Prop} (h : QO none H) : tNoPart σ H QO := h
theorem p_so {QO : Option Int → Hp → Prop} (h : te σ H fun x H1 => KInt x H1 QO) : tPart te σ H QO := h
theorem k_int {i : Int} {QO : Option Int → Hp → Prop} (h : QO (some i) H) : KInt (.int i) H QO := ⟨i, rfl, h⟩
theorem l_S {z : Str} {lo hi : Option Int} (hz : z.length ≤ sizeLine) (h : Q (.str (cutS z lo hi)) H) : rSl2 K (.str z) lo hi H Q := .inl ⟨z, rfl, hz, h⟩
theorem l_L {a : Addr} {xs : List V} {lo hi : Option Int} (hs : SqL K H a xs) (h : ∀ p H2, H p = none → Same H H2 → H2 p = some (.lst (cutV xs lo hi)) → Q (.ref p) H2) : rSl2 K (.ref a) lo hi H Q := .inr ⟨a, xs, rfl, hs, new_same h⟩
/-- o.m(..), m of a built-in type -/
theorem m_bm {T : String} {r : V → List V → Hp → VK → Prop} {tl : TA} (h : te σ H fun x H1 => tyV K T x H1 ∧ tl σ H1 fun xs H2 => r x xs H2 Q) : tBM K T r te tl σ H Q := h
theorem m_ty {a : Addr} {xs : List V} {P : Prop} (hs : SqL K H a xs) (h : P) : tyV K "list" (.ref a) H ∧ P := ⟨.inl ⟨rfl, xs, hs⟩, h⟩
theorem m_app {a : Addr} {xs : List V} (e : H a = some (.lst xs)) (hz : xs.length < sizeLine) (h : ∀ H2, Chg a H H2 → H2 a = some (.lst (xs ++ [y])) → Q .non H2) : rAppend (.ref a) [y] H Q := ⟨a, xs, y, rfl, rfl, e, hz, h _ chg_upd upd_same⟩
theorem g_sub {to ti : TE} {ts : TSet} {QS : L2.St → Hp → Prop} (h : to σ H fun o H1 => ti σ H1 fun i H2 => ts o i v H2 fun H3 => QS σ H3) : gSub to ti ts v σ H QS := h
theorem st_L {a : Addr} {xs : List V} {k : Int} {j : Nat} {QH : Hp → Prop} (e : H a = some (.lst xs)) (hj : ixN xs.length k = some j) (h : ∀ H2, Chg a H H2 → H2 a = some (.lst (xs.set j v)) → QH H2) : rSetL (.ref a) (.int k) v H QH := ⟨a, xs, k, j, rfl, rfl, e, hj, h _ chg_upd upd_same⟩
theorem m_m1 {r : V → List V → Hp → VK → Prop} (h : te σ H fun x H1 => (∃ a, x = .str a) ∧ ta σ H1 fun y H2 => r x [y] H2 Q) : tM1 r te ta σ H Q := h
theorem m_st {z : Str} {P : Prop} (h : P) : (∃ a, V.str z = .str a) ∧ P := ⟨⟨z, rfl⟩, h⟩
def rJoin (K : PySem.W.Frag) : V → List V → Hp → VK → Prop := fun x xs H Q => ∃ a p, ∃ ys : List Str, x = .str a ∧ xs = [.ref p] ∧ (SqL K H p (ys.map V.str) ∨ SqT K H p (ys.map V.str)) ∧
  (ys.map (·.length)).sum + ys.length * a.length ≤ 16777216 ∧ Q (.str (Txt.join a ys)) H
theorem pe_join2 {X : Cx} {o e : Expr} {to te : TE} {apos pos : Pos} (ho : PE X o to) (he : PE X e te) (hs : starEach [e] X.env = [(false, eval e X.env)] := by rfl) (hbase : attributeBase o "join" X.env (eval o X.env) = eval o X.env := by rfl) (hline : (apos.endLine == pos.line) = true := by rfl) :
    PE X (.Call (.Attribute o "join" apos) [e] [] pos) (tM1 (rJoin X.K) to te) := pe_join ho he hs hbase hline
theorem m_join {z : Str} {a : Addr} {ys : List Str} (hs : SqL K H a (ys.map V.str)) (hz : (ys.map (·.length)).sum + ys.length * z.length ≤ 16777216) (h : Q (.str (Txt.join z ys)) H) : rJoin K (.str z) [.ref a] H Q := ⟨z, a, ys, rfl, rfl, .inl hs, hz, h⟩
/-! ### loops -/
def LoopF (J : It) (g : TG) (tb : TS) (D : Ends) (σ : L2.St) (H : Hp) : Prop := ∃ W : Nat → Nat → L2.St → Hp → Prop, (∃ m, W 0 m σ H) ∧ ∀ i m σ H, W i m σ H →
  (J.stop i H ∧ D.nx σ H) ∨ (J.go i H ∧ ∃ N : L2.St → Hp → Prop, (∀ σ' H', N σ' H' → ∃ m', m' < m ∧ W (i + 1) m' σ' H') ∧ ∀ x H', J.yld i H x H' → g x σ H' fun σ2 H2 => tb { D with nx := N, ct := N, bk := D.nx } σ2 H2)
theorem s_for {wi : TI} (h : wi σ H fun J H1 => LoopF J g t D σ H1) : tFor wi g t D σ H := h
def LoopC (J : It) (g : TG) (tt : TT) (te : TE) (vs : List Nat) (σ : L2.St) (H1 : Hp) (Q : VK) : Prop := ∀ D, H1 D = none → ∃ W : Nat → Nat → Hp → Prop, (∃ m, W 0 m (upd H1 D (.lst []))) ∧ ∀ i m H, W i m H →
  (J.stop i H ∧ Q (.ref D) H) ∨ (J.go i H ∧ ∃ Nx : Hp → Prop, (∀ H', Nx H' → ∃ m', m' < m ∧ W (i + 1) m' H') ∧ ∀ x H', J.yld i H x H' → g x (wipe σ vs) H' fun σ2 H2 => wipe σ2 vs = wipe σ vs ∧ tt σ2 H2 fun b H3 =>
    if b = true then te σ2 H3 fun y H4 => ∃ acc, H4 D = some (.lst acc) ∧ acc.length < sizeLine ∧ Nx (upd H4 D (.lst (acc ++ [y]))) else Nx H3)
theorem e_lc {wi : TI} {tt : TT} {vs : List Nat} (h : wi σ H fun J H1 => LoopC J g tt te vs σ H1 Q) : tLc wi g tt te vs σ H Q := h
theorem t_yes (h : QT true H) : tYes σ H QT := h
theorem w_r1 {tl : TA} {R : It → Hp → Prop} (h : tl σ H fun vs H1 => KR1 vs H1 R) : iRng1 tl σ H R := h
theorem w_r2 {tl : TA} {R : It → Hp → Prop} (h : tl σ H fun vs H1 => KR2 vs H1 R) : iRng2 tl σ H R := h
theorem k_r1 {j : Int} {R : It → Hp → Prop} (h1 : -(2 ^ 62) ≤ j) (h2 : j < 2 ^ 62) (h : R (Itr 0 j.toNat) H) : KR1 [.int j] H R := ⟨j, rfl, h1, h2, h⟩
theorem k_r2 {i j : Int} {R : It → Hp → Prop} (h1 : -(2 ^ 62) ≤ i ∧ i < 2 ^ 62 ∧ -(2 ^ 62) ≤ j ∧ j < 2 ^ 62) (h : R (Itr i (j - i).toNat) H) : KR2 [.int i, .int j] H R := ⟨i, j, rfl, h1, h⟩
theorem w_l {R : It → Hp → Prop} (h : te σ H fun x H1 => KL K x H1 R) : iList K te σ H R := h
theorem k_l {a : Addr} {xs : List V} {R : It → Hp → Prop} (hs : SqL K H a xs) (h : R (Itl K a) H) : KL K (.ref a) H R := ⟨a, rfl, ⟨xs, hs⟩, h⟩
theorem w_t {R : It → Hp → Prop} (h : te σ H fun x H1 => KT K x H1 R) : iTup K te σ H R := h
theorem k_t {a : Addr} {xs : List V} {R : It → Hp → Prop} (hs : SqT K H a xs) (h : R (Itt K a) H) : KT K (.ref a) H R := ⟨a, rfl, ⟨xs, hs⟩, h⟩
theorem f_range {lo : Int} {n : Nat} (Pv : Nat → L2.St → Hp → Prop) (h0 : Pv 0 σ H)
    (hs : ∀ i σ H, i < n → Pv i σ H → g (.int (lo + i)) σ H fun σ2 H2 => t ⟨Pv (i + 1), D.rt, D.nx, Pv (i + 1)⟩ σ2 H2) (hd : ∀ σ H, Pv n σ H → D.nx σ H) : LoopF (Itr lo n) g t D σ H := for_range Pv h0 hs hd
theorem f_list {a : Addr} {xs : List V} (Pv : Nat → L2.St → Hp → Prop) (h0 : Pv 0 σ H) (hl : ∀ i σ H, i ≤ xs.length → Pv i σ H → SqL K H a xs)
    (hs : ∀ i x σ H, xs[i]? = some x → Pv i σ H → g x σ H fun σ2 H2 => t ⟨Pv (i + 1), D.rt, D.nx, Pv (i + 1)⟩ σ2 H2) (hd : ∀ σ H, Pv xs.length σ H → D.nx σ H) : LoopF (Itl K a) g t D σ H := for_list Pv h0 hl hs hd
theorem f_tup {a : Addr} {xs : List V} (Pv : Nat → L2.St → Hp → Prop) (h0 : Pv 0 σ H) (hl : ∀ i σ H, i ≤ xs.length → Pv i σ H → SqT K H a xs)
    (hs : ∀ i x σ H, xs[i]? = some x → Pv i σ H → g x σ H fun σ2 H2 => t ⟨Pv (i + 1), D.rt, D.nx, Pv (i + 1)⟩ σ2 H2) (hd : ∀ σ H, Pv xs.length σ H → D.nx σ H) : LoopF (Itt K a) g t D σ H := for_tup Pv h0 hl hs hd
/-- a text, sign by sign -/
theorem w_s {R : It → Hp → Prop} (h : te σ H fun x H1 => KS x H1 R) : iStr te σ H R := h
theorem k_s {z : Str} {R : It → Hp → Prop} (h : R (Its z) H) : KS (.str z) H R := ⟨z, rfl, h⟩
theorem f_str {z : Str} (Pv : Nat → L2.St → Hp → Prop) (h0 : Pv 0 σ H)
    (hs : ∀ i k σ H, z.cps.toList[i]? = some k → Pv i σ H → g (.str ⟨#[k]⟩) σ H fun σ2 H2 => t ⟨Pv (i + 1), D.rt, D.nx, Pv (i + 1)⟩ σ2 H2) (hd : ∀ σ H, Pv z.cps.toList.length σ H → D.nx σ H) : LoopF (Its z) g t D σ H := by
  refine ⟨fun i m σ H => m = z.cps.toList.length - i ∧ i ≤ z.cps.toList.length ∧ Pv i σ H, ⟨_, rfl, Nat.zero_le _, h0⟩, ?_⟩
  rintro i m σ H ⟨rfl, hi, p⟩
  by_cases hlt : i < z.cps.toList.length
  · refine .inr ⟨show i < z.cps.size by simpa using hlt, Pv (i + 1), fun σ' H' p' => ⟨z.cps.toList.length - (i + 1), by omega, rfl, hlt, p'⟩, fun x H' y => ?_⟩
    obtain ⟨rfl, k, e, rfl⟩ := y
    exact hs i k σ _ (by simpa using e) p
  · have e : i = z.cps.toList.length := by omega
    subst e
    exact .inl ⟨by simp [Its], hd σ H p⟩
theorem c_range {lo : Int} {n : Nat} {vs : List Nat} {tt : TT} (Pv : Addr → Nat → Hp → Prop) (h0 : ∀ D H1, H D = none → Same H H1 → H1 D = some (.lst []) → Pv D 0 H1)
    (hs : ∀ D i H1, i < n → H D = none → Pv D i H1 → g (.int (lo + i)) (wipe σ vs) H1 fun σ2 H2 => wipe σ2 vs = wipe σ vs ∧ tt σ2 H2 fun b H3 =>
      if b = true then te σ2 H3 fun y H4 => COut D y H4 (Pv D (i + 1)) else Pv D (i + 1) H3) (hd : ∀ D H1, H D = none → Pv D n H1 → Q (.ref D) H1) :
    LoopC (Itr lo n) g tt te vs σ H Q := fun D nD => lc_range (Pv D) (h0 D _ nD (same_new nD) upd_same) (fun i H1 hi p => hs D i H1 hi nD p) fun H1 p => hd D H1 nD p
theorem c_list {a : Addr} {xs : List V} {vs : List Nat} {tt : TT} (Pv : Addr → Nat → Hp → Prop) (h0 : ∀ D H1, H D = none → Same H H1 → H1 D = some (.lst []) → Pv D 0 H1) (hl : ∀ D i H1, i ≤ xs.length → H D = none → Pv D i H1 → SqL K H1 a xs)
    (hs : ∀ D i x H1, xs[i]? = some x → H D = none → Pv D i H1 → g x (wipe σ vs) H1 fun σ2 H2 => wipe σ2 vs = wipe σ vs ∧ tt σ2 H2 fun b H3 =>
      if b = true then te σ2 H3 fun y H4 => COut D y H4 (Pv D (i + 1)) else Pv D (i + 1) H3) (hd : ∀ D H1, H D = none → Pv D xs.length H1 → Q (.ref D) H1) :
    LoopC (Itl K a) g tt te vs σ H Q := fun D nD => lc_list (Pv D) (h0 D _ nD (same_new nD) upd_same) (fun i H1 hi p => hl D i H1 hi nD p) (fun i x H1 hi p => hs D i x H1 hi nD p) fun H1 p => hd D H1 nD p
theorem c_out {D : Addr} {acc : List V} {N : Hp → Prop} (e : H D = some (.lst acc)) (hz : acc.length < sizeLine) (h : ∀ H2, Chg D H H2 → H2 D = some (.lst (acc ++ [y])) → N H2) : COut D y H N := ⟨acc, e, hz, h _ chg_upd upd_same⟩
theorem s_while (W : Nat → L2.St → Hp → Prop) (m0 : Nat) (h0 : W m0 σ H) (hs : ∀ m σ H, W m σ H → c σ H fun b H1 => if b = true then KWh W m t D σ H1 else D.nx σ H1) : tWhile c t D σ H := ⟨W, ⟨m0, h0⟩, hs⟩
theorem k_while {W : Nat → L2.St → Hp → Prop} {m : Nat} (h : t ⟨fun σ' H' => ∃ m', m' < m ∧ W m' σ' H', D.rt, D.nx, fun σ' H' => ∃ m', m' < m ∧ W m' σ' H'⟩ σ H) : KWh W m t D σ H := ⟨_, fun _ _ q => q, h⟩
end
/-! ### a def of the top -/
structure DefOk (K : PySem.W.Frag) (mg : Str → Option Value) (x : Str) (st : Stmt) : Prop where
  ex : ∃ f fd, FunD K x x (defArgs st) (defBody st) (defScope st) [] [] f fd ∧ mg x = some (.ref f)
theorem cal_of {P : Program} {w : World} {K : PySem.W.Frag} {mg : Str → Option Value} {base : Heap} {x : Str} {st : Stmt} {N ps : List Str} {k : Nat} {sp : Sp} (F : DefOk K mg x st) (S : FnScope N ps (defScope st))
    (hb : ∀ f fd, FunD K x x (defArgs st) (defBody st) (defScope st) [] [] f fd → Binds K fd ps []) (len : ∀ vs H Q E, sp vs H Q E → vs.length = ps.length)
    (body : ∀ (f : Addr) (cdv : Value) (A : Around) (outer : List Env) (s : Shared) (H : Hp) (vs : List V) (Q : VK) (E : XK), Room k (A.deeper (envOfC x (defScope st) s.heap.objs.size f cdv)) → sp vs H Q E →
      ∃ t, PSs (cxOf CX0 P w K mg base N x (defScope st) f cdv A outer s H E).nox (defBody st) t ∧ t { nx := fun _ H' => Q .non H', rt := Q } (start N vs) H) : C8.Cal P w K mg base (k + 1) x sp [] := by
  obtain ⟨f, fd, F, hm⟩ := F.ex
  refine ⟨f, fd, ps, [], F.ok S len fun cdv A outer s H vs Q E hr h => ?_, hm, F.kp, hb f fd F, .nil⟩
  obtain ⟨t, h1, h2⟩ := body f cdv A outer s H vs Q E hr h
  exact ⟨t, PSs.nox h1, h2⟩
/-! ### calls without arguments -/
section
variable {X : Cx} {k j : Nat} {x : Str} {sp : Sp} {dvs : List V} {p pos : Pos}
theorem pe_c0 (c : C8.Cal X.prog X.w X.K X.mg X.base k x sp dvs) (hr : Room j X.A) (hk : k ≤ j) (hg : Gl X x) (hdb : (x == ("__debug__" : Str)) = false := by decide) :
    PE X (.Call (.Name x p) [] [] pos) (tCall sp dvs C8.E0 tNil) := by
  obtain ⟨f, fd, ps, ds, F, hm, kp, b, d⟩ := c.ex
  exact pe_call0 F (hr.mono hk) hg hm kp b d pass0 hdb
end
/-! ### a law's own hand of draws -/
def HandAt (H : Hp) (h d : Addr) : Prop := ∃ (n : Int) (ds : List Int), H h = some (.lst [.ref d, .int n]) ∧ 0 ≤ n ∧ H d = some (.lst (ds.map V.int))
/-- a draw below many -/
def spTake : Sp := fun vs H Q _ => ∃ (h d : Addr) (m : Int), vs = [.ref h, .int m] ∧ HandAt H h d ∧ 0 < m ∧ ∀ r H', 0 ≤ r → r < m → Chg h H H' → HandAt H' h d → Q (.int r) H'
theorem HandAt.ne {H : Hp} {h d : Addr} (x : HandAt H h d) : d ≠ h := by
  obtain ⟨n, ds, h1, h2, h3⟩ := x
  intro e
  subst e
  rw [h1] at h3
  cases ds <;> cases h3
theorem HandAt.same {H H' : Hp} {h d : Addr} (s : Same H H') (x : HandAt H h d) : HandAt H' h d := by
  obtain ⟨n, ds, h1, h2, h3⟩ := x
  exact ⟨n, ds, s _ _ h1, h2, s _ _ h3⟩
theorem HandAt.chg {H H' : Hp} {h d D : Addr} (c : Chg D H H') (x : HandAt H h d) (n1 : h ≠ D) (n2 : d ≠ D) : HandAt H' h d := by
  obtain ⟨n, ds, h1, h2, h3⟩ := x
  exact ⟨n, ds, c.at h1 n1, h2, c.at h3 n2⟩
theorem HandAt.new {H : Hp} {h d D : Addr} (x : HandAt H h d) (n : H D = none) : h ≠ D ∧ d ≠ D := by
  obtain ⟨_, ds, h1, h2, h3⟩ := x
  exact ⟨ne_of_none h1 n, ne_of_none h3 n⟩
/-- all but h is kept -/
def Keep (h : Addr) (H H' : Hp) : Prop := ∀ b o, b ≠ h → H b = some o → H' b = some o
theorem Keep.refl (h : Addr) (H : Hp) : Keep h H H := fun _ _ _ e => e
theorem Keep.trans {h : Addr} {H H1 H2 : Hp} (a : Keep h H H1) (b : Keep h H1 H2) : Keep h H H2 := fun c o n e => b c o n (a c o n e)
theorem Chg.keep {h : Addr} {H H' : Hp} (c : Chg h H H') : Keep h H H' := fun b o n e => c.at e n
theorem _root_.L2.Same.keep {h : Addr} {H H' : Hp} (c : Same H H') : Keep h H H' := fun b o _ e => c b o e
theorem Keep.chg {h D : Addr} {H H1 H2 : Hp} (k : Keep h H H1) (c : Chg D H1 H2) (n : H D = none) : Keep h H H2 := fun b o m e => c.at (k b o m e) (ne_of_none e n)
theorem Keep.free {h D : Addr} {H H1 : Hp} (k : Keep h H H1) (n : H1 D = none) (m : D ≠ h) : H D = none := by
  cases q : H D with
  | none => rfl
  | some o =>
    rw [k D o m q] at n
    cases n
theorem Keep.at {h b : Addr} {H H' : Hp} {o : HO} (c : Keep h H H') (e : H b = some o) (n : b ≠ h) : H' b = some o := c b o n e
theorem atI_of {α : Type} {xs : List α} {i : Int} {j : Nat} {v : α} (e : i = (j : Int)) (h : xs[j]? = some v) : atI xs i = some v := by
  subst e
  exact atI_nat h
/-! ### texts -/
theorem joinL_nil : ∀ ps : List (List Nat), TL.joinL [] ps = ps.flatten
  | [] => rfl
  | [p] => by simp [TL.joinL]
  | p :: q :: r => by
    show p ++ ([] ++ TL.joinL [] (q :: r)) = _
    rw [joinL_nil (q :: r)]
    simp
theorem join_empty (ys : List Str) : (Txt.join (Str.ofString "") ys).cps.toList = (ys.map fun y => y.cps.toList).flatten := by
  rw [TL.join_eq]
  have h := TL.tl_join (Str.ofString "") ys
  have e : TL.tl (Str.ofString "") = [] := by decide +kernel
  rw [e, joinL_nil] at h
  exact h
theorem str_len (z : Str) : z.length = z.cps.toList.length := by simp [Str.length]
theorem str_ext {x y : Str} (h : x.cps.toList = y.cps.toList) : x = y := by
  obtain ⟨a⟩ := x
  obtain ⟨b⟩ := y
  have e : a = b := Array.ext' h
  rw [e]
theorem app_len (x y : Str) : (x ++ y).length = x.length + y.length := by
  show (x.cps ++ y.cps).size = x.cps.size + y.cps.size
  simp
theorem app_tl (x y : Str) : (x ++ y).cps.toList = x.cps.toList ++ y.cps.toList := by
  show (x.cps ++ y.cps).toList = x.cps.toList ++ y.cps.toList
  simp
theorem repS_len (z : Str) (k : Int) : (repS z k).length = k.toNat * z.length := by
  unfold repS
  simp [Str.length, List.length_flatten, List.map_replicate, List.sum_replicate_nat]
theorem cutS_nat (z : Str) {i j : Nat} (hi : i ≤ z.length) (hj : j ≤ z.length) : (cutS z (some (i : Int)) (some (j : Int))).cps.toList = (z.cps.toList.drop i).take (j - i) := by
  unfold cutS
  rw [HT.sIx_nat, HT.sIx_nat, Nat.min_eq_left hi, Nat.min_eq_left hj]
theorem cutS_len2 (z : Str) (i : Nat) : (cutS z (some (i : Int)) (some ((i + 2 : Nat) : Int))).length = min (i + 2) z.length - min i z.length := by
  unfold cutS
  rw [HT.sIx_nat, HT.sIx_nat]
  show ((((z.cps.toList.drop (min i z.length)).take (min (i + 2) z.length - min i z.length)).toArray).size) = _
  rw [List.size_toArray, List.length_take, List.length_drop, Array.length_toList]
  show min _ (z.length - _) = _
  omega
/-- the place behind the longest run from i of signs in p -/
def runEnd (cs p : List Nat) (i : Nat) : Nat := i + ((cs.drop i).takeWhile fun c => decide (c ∈ p)).length
theorem runEnd_out {cs p : List Nat} {i : Nat} (h : cs.length ≤ i) : runEnd cs p i = i := by
  unfold runEnd
  rw [List.drop_of_length_le h]
  rfl
theorem runEnd_no {cs p : List Nat} {i c : Nat} (e : cs[i]? = some c) (h : c ∉ p) : runEnd cs p i = i := by
  unfold runEnd
  have hi : i < cs.length := (List.getElem?_eq_some_iff.mp e).1
  rw [List.drop_eq_getElem_cons hi, (List.getElem?_eq_some_iff.mp e).2, List.takeWhile_cons_of_neg (by simpa using h)]
  rfl
theorem runEnd_yes {cs p : List Nat} {i c : Nat} (e : cs[i]? = some c) (h : c ∈ p) : runEnd cs p i = runEnd cs p (i + 1) := by
  unfold runEnd
  have hi : i < cs.length := (List.getElem?_eq_some_iff.mp e).1
  rw [List.drop_eq_getElem_cons hi, (List.getElem?_eq_some_iff.mp e).2, List.takeWhile_cons_of_pos (by simpa using h), List.length_cons]
  omega
theorem runEnd_ge (cs p : List Nat) (i : Nat) : i ≤ runEnd cs p i := Nat.le_add_right _ _
theorem runEnd_le {cs p : List Nat} {i : Nat} (h : i ≤ cs.length) : runEnd cs p i ≤ cs.length := by
  unfold runEnd
  have h1 := (List.takeWhile_prefix (fun c => decide (c ∈ p)) (l := cs.drop i)).length_le
  rw [List.length_drop] at h1
  omega
theorem runEnd_all {cs p : List Nat} : runEnd cs p 0 = cs.length ↔ ∀ c ∈ cs, c ∈ p := by
  unfold runEnd
  rw [List.drop_zero, Nat.zero_add]
  induction cs with
  | nil => simp
  | cons a r ih =>
    by_cases h : a ∈ p
    · rw [List.takeWhile_cons_of_pos (by simpa using h), List.length_cons, List.length_cons, Nat.add_right_cancel_iff, ih]
      simp [h]
    · rw [List.takeWhile_cons_of_neg (by simpa using h)]
      simp [h]
theorem atI_cps {z : Str} {i : Nat} (h : i < z.length) : ∃ c, z.cps.toList[i]? = some c ∧ atI z.cps.toList (i : Int) = some c := by
  have h1 : i < z.cps.toList.length := by rw [← str_len]; exact h
  exact ⟨_, List.getElem?_eq_getElem h1, atI_nat (List.getElem?_eq_getElem h1)⟩
theorem small1000' {n : Nat} (h : n ≤ 100000) : n < sizeLine := Nat.lt_of_le_of_lt h (by decide)
theorem ixN_nat {n j : Nat} (h : j < n) : ixN n (j : Int) = some j := by
  unfold ixN
  rw [if_pos (by omega), if_pos (by omega)]
  simp
/-- one sign, compared -/
theorem sign_eq {c k : Nat} {y : Str} (hy : y = ⟨#[k]⟩) : decide (V.str ⟨#[c]⟩ = V.str y) = true ↔ c = k := by
  rw [decide_eq_true_iff, hy]
  constructor
  · intro e
    injection e with e
    injection e with e
    have e2 := congrArg Array.toList e
    simpa using e2
  · intro e
    rw [e]
theorem snoc_int {H : Hp} {d : Addr} {ds : List Int} {v : Int} (e : H d = some (.lst (ds.map V.int ++ [.int v]))) : ∃ ds' : List Int, H d = some (.lst (ds'.map V.int)) ∧ ds'.length = ds.length + 1 :=
  ⟨ds ++ [v], by rw [e, List.map_append]; rfl, by rw [List.length_append]; rfl⟩
/-- the items are texts of at most m signs -/
def strsB (m : Nat) (xs : List V) : Bool := xs.all fun x => match x with | .str y => decide (y.length ≤ m) | _ => false
theorem item_str (xs : List V) {m : Nat} (h : strsB m xs = true) {j : Nat} (hj : j < xs.length) : ∃ y : Str, xs[j]? = some (.str y) ∧ y.length ≤ m := by
  have h1 := List.all_eq_true.mp h xs[j] (List.getElem_mem hj)
  cases e : xs[j] with
  | str y =>
    rw [e] at h1
    exact ⟨y, by rw [List.getElem?_eq_getElem hj, e], of_decide_eq_true h1⟩
  | _ =>
    rw [e] at h1
    cases h1
theorem fn_of2 {P : Program} {w : World} {K : PySem.W.Frag} {mg : Str → Option Value} {base : Heap} {x : Str} {st : Stmt} {N ps : List Str} {k : Nat} {sp : Sp} {f : Addr} {fd : FuncData} (F : FunD K x x (defArgs st) (defBody st) (defScope st) [] [] f fd) (S : FnScope N ps (defScope st))
    (len : ∀ vs H Q E, sp vs H Q E → vs.length = ps.length)
    (body : ∀ (f : Addr) (cdv : Value) (A : Around) (outer : List Env) (s : Shared) (H : Hp) (vs : List V) (Q : VK) (E : XK), Room k (A.deeper (envOfC x (defScope st) s.heap.objs.size f cdv)) → sp vs H Q E →
      ∃ t, PSs (cxOf CX0 P w K mg base N x (defScope st) f cdv A outer s H E).nox (defBody st) t ∧ t { nx := fun _ H' => Q .non H', rt := Q } (start N vs) H) : FnOk P w K mg base CX0 (k + 1) f fd ps sp :=
  F.ok S len fun cdv A outer s H vs Q E hr h => by
    obtain ⟨t, h1, h2⟩ := body f cdv A outer s H vs Q E hr h
    exact ⟨t, PSs.nox h1, h2⟩
theorem lz {n : Nat} (h : n ≤ 1000) : n ≤ sizeLine := Nat.le_of_lt (small1000 h)
/-! ### more steps -/
def rStrI : List V → Hp → VK → Prop := fun xs H Q => ∃ i, xs = [.int i] ∧ i.natAbs.log2 < 1920 ∧ Q (.str (toString i)) H
theorem call_strI {X : Cx} : CallR X (.type "str") rStrI := call_str_int
def rLst (K : PySem.W.Frag) : List V → Hp → VK → Prop := fun xs H Q => ∃ p ys, xs = [.ref p] ∧ (SqL K H p ys ∨ SqT K H p ys) ∧ ∀ l, H l = none → Q (.ref l) (upd H l (.lst ys))
theorem call_lst {X : Cx} : CallR X (.type "list") (rLst X.K) := call_list_of
def rTpl (K : PySem.W.Frag) : List V → Hp → VK → Prop := fun xs H Q => ∃ p ys, xs = [.ref p] ∧ SqL K H p ys ∧ ∀ l, H l = none → Q (.ref l) (upd H l (.tup ys))
theorem log_small {n : Nat} (h : n < 10 ^ 40) : n.log2 < 1920 := by
  by_cases h0 : n = 0
  · subst h0
    decide
  · rw [Nat.log2_lt h0]
    exact Nat.lt_of_lt_of_le h (by decide +kernel)
def tJoined (ts : List TE) : TE := fun σ H Q => tJs ts Str.empty σ H fun out H1 => Q (.str out) H1
theorem pe_joined2 {X : Cx} {v1 v2 : Expr} {rest : List Expr} {ts : List TE} {pos : Pos} (h : PJ X (v1 :: v2 :: rest) ts) : PE X (.JoinedStr (v1 :: v2 :: rest) pos) (tJoined ts) := pe_joined h
def KJ (x : V) (acc : Str) (ts : List TE) (σ : L2.St) (H : Hp) (Q : Str → Hp → Prop) : Prop := ∃ y : Str, x = .str y ∧ (acc ++ y).length ≤ sizeLine ∧ tJs ts (acc ++ y) σ H Q
def KF (x : V) (H : Hp) (Q : VK) : Prop := (∃ y : Str, x = .str y ∧ y.length ≤ sizeLine ∧ Q (.str y) H) ∨ ∃ i : Int, x = .int i ∧ i.natAbs.log2 < 1920 ∧ Q (.str (toString i)) H
section
variable {K : PySem.W.Frag} {σ : L2.St} {H : Hp} {Q : VK} {QS : L2.St → Hp → Prop} {QJ : Str → Hp → Prop} {te : TE} {ts : List TE} {v : V} {g : TG}
theorem g_tup {u : TGs} {a : Addr} {xs : List V} {n : Nat} (hs : SqT K H a xs) (hl : xs.length = n) (h : u xs σ H QS) : gTup K n u (.ref a) σ H QS := ⟨a, xs, rfl, hs, hl, h⟩
theorem g_cons {u : TGs} {r : List V} (h : g v σ H fun σ' H' => u r σ' H' QS) : gCons g u (v :: r) σ H QS := ⟨v, r, rfl, h⟩
theorem g_nil (h : QS σ H) : gNil [] σ H QS := ⟨rfl, h⟩
theorem b_strI {i : Int} (hz : i.natAbs < 10 ^ 40) (h : Q (.str (toString i)) H) : rStrI [.int i] H Q := ⟨i, rfl, log_small hz, h⟩
theorem b_lst {a : Addr} {xs : List V} (hs : SqL K H a xs) (h : ∀ p H2, H p = none → Same H H2 → H2 p = some (.lst xs) → Q (.ref p) H2) : rLst K [.ref a] H Q := ⟨a, xs, rfl, .inl hs, new_same h⟩
theorem e_joined (h : tJs ts Str.empty σ H fun out H1 => Q (.str out) H1) : tJoined ts σ H Q := h
theorem j_nil {acc : Str} (h : QJ acc H) : tJs [] acc σ H QJ := h
theorem j_cons {acc : Str} (h : te σ H fun x H1 => KJ x acc ts σ H1 QJ) : tJs (te :: ts) acc σ H QJ := h
theorem k_j {acc y : Str} (hz : (acc ++ y).length ≤ sizeLine) (h : tJs ts (acc ++ y) σ H QJ) : KJ (.str y) acc ts σ H QJ := ⟨y, rfl, hz, h⟩
theorem e_fmt (h : te σ H fun x H1 => KF x H1 Q) : tFmt te σ H Q := h
theorem k_fS {y : Str} (hz : y.length ≤ sizeLine) (h : Q (.str y) H) : KF (.str y) H Q := .inl ⟨y, rfl, hz, h⟩
theorem k_fI {i : Int} (hz : i.natAbs < 10 ^ 40) (h : Q (.str (toString i)) H) : KF (.int i) H Q := .inr ⟨i, rfl, log_small hz, h⟩
end
/-! ### data of tuples -/
mutual
inductive Tp (H : Hp) : V → PyData → Prop
  | non : Tp H .non .none
  | bl (b : Bool) : Tp H (.bl b) (.bool b)
  | int (i : Int) : Tp H (.int i) (.int i)
  | str (x : Str) : Tp H (.str x) (.str x)
  | tup {a : Addr} {xs : List V} {ds : List PyData} : H a = some (.tup xs) → TpAll H xs ds → Tp H (.ref a) (.tuple ds)
inductive TpAll (H : Hp) : List V → List PyData → Prop
  | nil : TpAll H [] []
  | cons {v : V} {vs : List V} {d : PyData} {ds : List PyData} : Tp H v d → TpAll H vs ds → TpAll H (v :: vs) (d :: ds)
end
/-- the tuples stay -/
def TK (H H' : Hp) : Prop := ∀ a xs, H a = some (.tup xs) → H' a = some (.tup xs)
theorem TK.refl (H : Hp) : TK H H := fun _ _ e => e
theorem TK.trans {H H1 H2 : Hp} (a : TK H H1) (b : TK H1 H2) : TK H H2 := fun c xs e => b c xs (a c xs e)
theorem _root_.L2.Same.tk {H H' : Hp} (s : Same H H') : TK H H' := fun a xs e => s a _ e
theorem Chg.tk {l : Addr} {H H' : Hp} {ys : List V} (c : Chg l H H') (e : H l = some (.lst ys)) : TK H H' := fun a xs h => c.at h (ne_of h e (by intro z; cases z))
theorem Keep.tk {h : Addr} {H H' : Hp} {ys : List V} (c : Keep h H H') (e : H h = some (.lst ys)) : TK H H' := fun a xs q => c.at q (ne_of q e (by intro z; cases z))
theorem HandAt.keep_tk {h d : Addr} {H H' : Hp} (x : HandAt H h d) (c : Keep h H H') : TK H H' := by
  obtain ⟨n, ds, h1, _, _⟩ := x
  exact c.tk h1
theorem HandAt.chg_tk {h d : Addr} {H H' : Hp} (x : HandAt H h d) (c : Chg h H H') : TK H H' := x.keep_tk c.keep
mutual
theorem Tp.tk {H H' : Hp} (k : TK H H') : ∀ {d : PyData} {v : V}, Tp H v d → Tp H' v d
  | .none, _, h => by cases h; exact .non
  | .bool b, _, h => by cases h; exact .bl b
  | .int i, _, h => by cases h; exact .int i
  | .str x, _, h => by cases h; exact .str x
  | .tuple ds, _, h => by
    cases h with
    | tup e r => exact .tup (k _ _ e) (TpAll.tk k r)
  | .list _, _, h => by cases h
  | .dict _, _, h => by cases h
theorem TpAll.tk {H H' : Hp} (k : TK H H') : ∀ {ds : List PyData} {vs : List V}, TpAll H vs ds → TpAll H' vs ds
  | [], _, h => by cases h; exact .nil
  | d :: ds, _, h => by
    cases h with
    | cons h1 h2 => exact .cons (Tp.tk k h1) (TpAll.tk k h2)
end
mutual
theorem Tp.dp {K : PySem.W.Frag} {H : Hp} : ∀ {d : PyData} {v : V}, Tp H v d → Dp K H v d
  | .none, _, h => by cases h; exact .non
  | .bool b, _, h => by cases h; exact .bl b
  | .int i, _, h => by cases h; exact .int i
  | .str x, _, h => by cases h; exact .str x
  | .tuple ds, _, h => by
    cases h with
    | tup e r => exact .tup (tup_of e) (TpAll.dp r)
  | .list _, _, h => by cases h
  | .dict _, _, h => by cases h
theorem TpAll.dp {K : PySem.W.Frag} {H : Hp} : ∀ {ds : List PyData} {vs : List V}, TpAll H vs ds → DpAll K H vs ds
  | [], _, h => by cases h; exact .nil
  | d :: ds, _, h => by
    cases h with
    | cons h1 h2 => exact .cons (Tp.dp h1) (TpAll.dp h2)
end
theorem TpAll.get {H : Hp} : ∀ {vs : List V} {ds : List PyData} {i : Nat} {d : PyData}, TpAll H vs ds → ds[i]? = some d → ∃ v, vs[i]? = some v ∧ Tp H v d
  | _, _, _, _, .nil, h => by cases h
  | _, _, 0, _, .cons h1 _, h => by
    cases h
    exact ⟨_, rfl, h1⟩
  | _, _, i + 1, _, .cons _ h2, h => by
    obtain ⟨v, e, q⟩ := TpAll.get h2 (i := i) h
    exact ⟨v, e, q⟩
theorem TpAll.length {H : Hp} : ∀ {vs : List V} {ds : List PyData}, TpAll H vs ds → vs.length = ds.length
  | _, _, .nil => rfl
  | _, _, .cons _ h => by rw [List.length_cons, List.length_cons, h.length]
/-- a def that is never called so -/
theorem cal_never {P : Program} {w : World} {K : PySem.W.Frag} {mg : Str → Option Value} {base : Heap} {x : Str} {st : Stmt} {ps : List Str} {k : Nat} {sp : Sp} (F : DefOk K mg x st)
    (hb : ∀ f fd, FunD K x x (defArgs st) (defBody st) (defScope st) [] [] f fd → Binds K fd ps []) (no : ∀ vs H Q E, ¬ sp vs H Q E) : C8.Cal P w K mg base k x sp [] := by
  obtain ⟨f, fd, F, hm⟩ := F.ex
  exact ⟨f, fd, ps, [], ⟨fun vs H Q E h => absurd h (no _ _ _ _), fun A outer s H args us vs Q E hr he hb hv h => absurd h (no _ _ _ _)⟩, hm, F.kp, hb f fd F, .nil⟩
end Wy
open Wy
namespace W6
open PySem PySem.Spec PyProof.Rows L2 Wy
theorem uu {a c : Nat} (h : a + 64 < c) : a + 1 < c := by omega
/-! ### a table of the top: texts to tuples -/
def rKd (K : PySem.W.Frag) (d : Addr) : R2 := fun x y H Q => ∃ (z : Str) (u0 : Value) (v0 : V), x = .ref d ∧ y = .str z ∧ PySem.W.nsIn K d z = some (some u0) ∧ RelV v0 u0 ∧ Q v0 H
theorem pe_kd {X : Cx} {d : Addr} {es : Array DictEntry} {n : Nat} {o i : Expr} {pos : Pos} {td ty : TE} (D : KDict X.K X.w d es n) (ho : PE X o td) (hi : PE X i ty) (hs : NoSl i) : PE X (.Subscript o i pos) (tOp (rKd X.K d) td ty) := by
  refine ⟨fun pins s σ H Q I h => ?_⟩
  refine subD_of PySem.F.slot_dict_getitem.lookup hs (thn (ho.run pins s σ H _ I h) fun u s1 ⟨x, H1, I1, rx, q1⟩ => thn (hi.run pins s1 σ H1 _ I1 q1) fun iv s2 ⟨y, H2, I2, ry, q2⟩ => ?_)
  have q3 := q2
  obtain ⟨z, u0, v0, ex, ey, e, r, q⟩ := q2
  subst ex
  have ru : u = Value.ref d := rx
  subst ru
  exact ⟨kd_type D I2, op_item_kd D pins s2 σ H2 (.ref d) y _ iv Q I2 rfl ry q3⟩
def tupAt (K : PySem.W.Frag) (o : Option Obj) (vs : List V) : Bool := match o with
  | some ⟨.type c, none, .seq its _, _⟩ => decide (c = "tuple") && (decide (its.size ≤ sizeLine) && He.relAll vs its.toList)
  | _ => false
def keyB (K : PySem.W.Frag) (d : Addr) (z : Str) (vs : List V) : Bool := match PySem.W.nsIn K d z with
  | some (some (.ref t)) => tupAt K (K.lookup t) vs
  | _ => false
theorem tupAt_ok {K : PySem.W.Frag} {t : Addr} {vs : List V} (h : tupAt K (K.lookup t) vs = true) (H : Hp) : SqT K H t vs := by
  unfold tupAt at h
  split at h
  · rename_i c its n sl e
    obtain ⟨h1, h2⟩ := He.ba h
    obtain ⟨h3, h4⟩ := He.ba h2
    exact .inr ⟨_, its, n, e, congrArg Value.type (of_decide_eq_true h1), rfl, of_decide_eq_true h3, He.relAll_ok h4⟩
  · cases h
theorem keyB_ok {K : PySem.W.Frag} {d : Addr} {z : Str} {vs : List V} (h : keyB K d z vs = true) : ∃ t, PySem.W.nsIn K d z = some (some (.ref t)) ∧ ∀ H, SqT K H t vs := by
  unfold keyB at h
  split at h
  · rename_i t e
    exact ⟨t, e, fun H => tupAt_ok h H⟩
  · cases h
theorem o_kd {K : PySem.W.Frag} {H : Hp} {Q : VK} {d t : Addr} {z : Str} (e : PySem.W.nsIn K d z = some (some (.ref t))) (q : Q (.ref t) H) : rKd K d (.ref d) (.str z) H Q := ⟨z, _, .ref t, rfl, rfl, e, rfl, q⟩
def rTup (K : PySem.W.Frag) : List V → Hp → VK → Prop := fun xs H Q => ∃ p ys, xs = [.ref p] ∧ ((SqL K H p ys ∧ ∀ l, H l = none → Q (.ref l) (upd H l (.tup ys))) ∨ (SqT K H p ys ∧ Q (.ref p) H))
theorem call_tup2 {X : Cx} : CallR X (.type "tuple") (rTup X.K) := call_tuple_of
theorem b_tup {K : PySem.W.Frag} {H : Hp} {Q : VK} {a : Addr} {xs : List V} (hs : SqL K H a xs) (h : ∀ p H2, H p = none → Same H H2 → H2 p = some (.tup xs) → Q (.ref p) H2) : rTup K [.ref a] H Q := ⟨a, xs, rfl, .inl ⟨hs, new_same h⟩⟩
end W6
namespace WD
open PySem PySem.Spec PyProof.Rows L2 Wy
theorem uu {a c : Nat} (h : a + 64 < c) : a + 1 < c := by omega
/-! ### dicts of texts -/
def rLnD : List V → Hp → VK → Prop := fun xs H Q => ∃ a kvs, xs = [.ref a] ∧ H a = some (.dK kvs) ∧ Q (.int (kvs.length : Nat)) H
theorem call_lenD {X : Cx} : CallR X (.builtin "len") rLnD := by
  intro pins s σ H xs us Q I r h
  obtain ⟨p, kvs, rfl, hk, q⟩ := h
  obtain ⟨u, eu, rx⟩ := vals1 r
  subst eu
  obtain rfl : u = Value.ref p := rx
  exact d_len I (.inl hk) fun t s' I' => ⟨.int (kvs.length : Nat), H, I', ⟨t, rfl⟩, q⟩
section
variable {K : PySem.W.Frag} {σ : L2.St} {H : Hp} {Q : VK} {td ty tv : TE} {D : Ends}
def KD (x y : V) (H : Hp) (Q : VK) : Prop := ∃ a v, x = .ref a ∧ DGet H a y (some v) ∧ Q v H
def KP (v x y : V) (σ : L2.St) (H : Hp) (N : L2.St → Hp → Prop) : Prop := ∃ a H4, x = .ref a ∧ DPut H a y v H4 ∧ N σ H4
theorem e_dnew (h : ∀ p H2, H p = none → Same H H2 → H2 p = some (.dK []) → Q (.ref p) H2) : tDNewK σ H Q := new_same h
theorem e_dget (h : td σ H fun x H1 => ty σ H1 fun y H2 => KD x y H2 Q) : tDGet td ty σ H Q := h
theorem k_d {a : Addr} {kvs : List (Key × V)} {n : Str} {v : V} (e : H a = some (.dK kvs)) (g : valV kvs (.inr n) = some v) (h : Q v H) : KD (.ref a) (.str n) H Q :=
  ⟨a, v, rfl, g ▸ DGet.k (k := .inr n) e, h⟩
theorem s_dput (h : tv σ H fun v H1 => td σ H1 fun x H2 => ty σ H2 fun y H3 => KP v x y σ H3 D.nx) : sDPut td ty tv D σ H := h
theorem k_p {a : Addr} {kvs : List (Key × V)} {n : Str} {v : V} {N : L2.St → Hp → Prop} (e : H a = some (.dK kvs)) (hl : kvs.length < sizeLine) (h : ∀ H2, Chg a H H2 → H2 a = some (.dK (putK kvs (.inr n) v)) → N σ H2) :
    KP v (.ref a) (.str n) σ H N := ⟨a, _, rfl, DPut.k (k := .inr n) e hl, h _ chg_upd upd_same⟩
theorem b_lenD {a : Addr} {kvs : List (Key × V)} (e : H a = some (.dK kvs)) (h : Q (.int (kvs.length : Nat)) H) : rLnD [.ref a] H Q := ⟨a, kvs, rfl, e, h⟩
theorem b_lstD {a : Addr} {kvs : List (Key × V)} (e : H a = some (.dK kvs)) (h : ∀ p H2, H p = none → Same H H2 → H2 p = some (.lst (kvs.map fun kv => kV kv.1)) → Q (.ref p) H2) : rListD [.ref a] H Q := ⟨a, kvs, rfl, e, new_same h⟩
def rTup (K : PySem.W.Frag) : List V → Hp → VK → Prop := fun xs H Q => ∃ p ys, xs = [.ref p] ∧ ((SqL K H p ys ∧ ∀ l, H l = none → Q (.ref l) (upd H l (.tup ys))) ∨ (SqT K H p ys ∧ Q (.ref p) H))
theorem call_tup2 {X : Cx} : CallR X (.type "tuple") (rTup X.K) := call_tuple_of
theorem b_tup {a : Addr} {xs : List V} (hs : SqL K H a xs) (h : ∀ p H2, H p = none → Same H H2 → H2 p = some (.tup xs) → Q (.ref p) H2) : rTup K [.ref a] H Q := ⟨a, xs, rfl, .inl ⟨hs, new_same h⟩⟩
theorem m_idx {a : Addr} {ys : List V} {y : V} {j : Nat} {z : V} (hs : SqL K H a ys) (f1 : flatV y = true) (f2 : ys.all flatV = true) (g : ys[j]? = some z) (e : eqV z y = true)
    (no : ∀ (m : Nat) (z' : V), m < j → ys[m]? = some z' → eqV z' y = false) (h : Q (.int (j : Nat)) H) : rIndex K (.ref a) [y] H Q := ⟨a, ys, y, j, z, rfl, rfl, hs, f1, f2, g, e, no, h⟩
end
/-- the names with their values, as far as there are values -/
def kv (ns : List Str) (vs : List V) : List (Key × V) := (ns.zip vs).map fun p => (.inr p.1, p.2)
theorem kv_len {ns : List Str} {vs : List V} (h : vs.length ≤ ns.length) : (kv ns vs).length = vs.length := by
  unfold kv
  rw [List.length_map, List.length_zip]
  omega
theorem kv_get : ∀ {ns : List Str} {vs : List V} {j : Nat} {n : Str} {v : V}, ns.Nodup → ns[j]? = some n → vs[j]? = some v → valV (kv ns vs) (.inr n) = some v
  | [], _, _, _, _, _, h, _ => by cases h
  | _ :: _, [], _, _, _, _, _, h => by cases h
  | m :: ns, u :: vs, 0, n, v, _, h1, h2 => by
    cases h1
    cases h2
    exact valV_pos (p := (Sum.inr m, u)) rfl
  | m :: ns, u :: vs, j + 1, n, v, hd, h1, h2 => by
    have h1 : ns[j]? = some n := h1
    have h2 : vs[j]? = some v := h2
    have hd := List.nodup_cons.mp hd
    have ne : ¬ (Sum.inr m : Key) = Sum.inr n := fun e => hd.1 (by
      have e2 : m = n := Sum.inr.inj e
      rw [e2]
      exact List.mem_of_getElem? h1)
    exact (valV_neg (p := (Sum.inr m, u)) ne).trans (kv_get hd.2 h1 h2)
theorem zip_fst : ∀ (ns : List Str) (vs : List V), (ns.zip vs).map Prod.fst = ns.take vs.length
  | [], _ => by simp
  | _ :: _, [] => rfl
  | n :: ns, _ :: vs => congrArg (n :: ·) (zip_fst ns vs)
theorem zip_cut : ∀ (ns : List Str) (vs : List V), ns.zip vs = (ns.take vs.length).zip vs
  | [], _ => by simp
  | _ :: _, [] => rfl
  | n :: ns, v :: vs => congrArg ((n, v) :: ·) (zip_cut ns vs)
theorem kv_any {ns : List Str} {vs : List V} {n : Str} : ((kv ns vs).any fun p => decide (p.1 = (.inr n : Key))) = true ↔ n ∈ (ns.take vs.length) := by
  unfold kv
  rw [List.any_map, List.any_eq_true]
  constructor
  · rintro ⟨⟨a, b⟩, hm, h⟩
    have h : (Sum.inr a : Key) = Sum.inr n := of_decide_eq_true h
    have e : a = n := Sum.inr.inj h
    subst e
    have : a ∈ (ns.zip vs).map Prod.fst := List.mem_map.mpr ⟨_, hm, rfl⟩
    rw [zip_fst] at this
    exact this
  · intro h
    have : n ∈ (ns.zip vs).map Prod.fst := by
      rw [zip_fst]
      exact h
    obtain ⟨⟨a, b⟩, hm, e⟩ := List.mem_map.mp this
    exact ⟨(a, b), hm, decide_eq_true (by rw [← e])⟩
theorem kv_new {ns : List Str} {vs : List V} {n : Str} {v : V} (hd : ns.Nodup) (h : ns[vs.length]? = some n) : putK (kv ns vs) (.inr n) v = kv ns (vs ++ [v]) := by
  have no : n ∉ ns.take vs.length := by
    intro hm
    obtain ⟨i, hi, e⟩ := List.getElem_of_mem hm
    obtain ⟨hl, e2⟩ := List.getElem?_eq_some_iff.mp h
    rw [List.length_take] at hi
    rw [List.getElem_take] at e
    have := (List.getElem_inj hd).mp (e.trans e2.symm)
    omega
  unfold putK
  rw [if_neg (fun e => no (kv_any.mp e))]
  unfold kv
  obtain ⟨hl, e2⟩ := List.getElem?_eq_some_iff.mp h
  have e3 : ns = ns.take vs.length ++ n :: ns.drop (vs.length + 1) := by
    rw [← e2, List.getElem_cons_drop, List.take_append_drop]
  have e4 : ns.zip vs = (ns.take vs.length).zip vs := zip_cut ns vs
  have l1 : (ns.take vs.length).length = vs.length := by rw [List.length_take]; omega
  have e5 : ns.zip (vs ++ [v]) = (ns.take vs.length).zip vs ++ [(n, v)] := by
    conv => lhs; rw [e3]
    rw [List.zip_append l1]
    simp
  rw [e4, e5, List.map_append]
  rfl
theorem kv_set : ∀ {ns : List Str} {vs : List V} {j : Nat} {n : Str} {v : V}, ns.Nodup → ns[j]? = some n → j < vs.length → (kv ns vs).map (fun p => if p.1 = (.inr n : Key) then (p.1, v) else p) = kv ns (vs.set j v)
  | [], _, _, _, _, _, h, _ => by cases h
  | _ :: _, [], _, _, _, _, _, h => absurd h (Nat.not_lt_zero _)
  | m :: ns, u :: vs, 0, n, v, hd, h1, h2 => by
    cases h1
    have hd := List.nodup_cons.mp hd
    show (if (Sum.inr m : Key) = Sum.inr m then _ else _) :: _ = (_ :: _ : List (Key × V))
    rw [if_pos rfl]
    refine congrArg (_ :: ·) ?_
    refine (List.map_congr_left fun p hp => ?_).trans (List.map_id _)
    obtain ⟨⟨a, b⟩, hm, e⟩ := List.mem_map.mp hp
    rw [if_neg ?_]
    · rfl
    · rw [← e]
      intro e2
      exact hd.1 (Sum.inr.inj e2 ▸ (List.of_mem_zip hm).1)
  | m :: ns, u :: vs, j + 1, n, v, hd, h1, h2 => by
    have h1 : ns[j]? = some n := h1
    have hd := List.nodup_cons.mp hd
    have ne : ¬ (Sum.inr m : Key) = Sum.inr n := fun e => hd.1 (by
      have e2 : m = n := Sum.inr.inj e
      rw [e2]
      exact List.mem_of_getElem? h1)
    show (if (Sum.inr m : Key) = Sum.inr n then _ else _) :: _ = (_ :: _ : List (Key × V))
    rw [if_neg ne]
    exact congrArg (_ :: ·) (kv_set hd.2 h1 (Nat.lt_of_succ_lt_succ h2))
theorem kv_put {ns : List Str} {vs : List V} {j : Nat} {n : Str} {v : V} (hd : ns.Nodup) (h : ns[j]? = some n) (hj : j < vs.length) : putK (kv ns vs) (.inr n) v = kv ns (vs.set j v) := by
  obtain ⟨hl, e2⟩ := List.getElem?_eq_some_iff.mp h
  have hm : n ∈ ns.take vs.length := by
    rw [← e2]
    exact List.mem_take_iff_getElem.mpr ⟨j, by omega, rfl⟩
  unfold putK
  rw [if_pos (kv_any.mpr hm)]
  exact kv_set hd h hj
theorem kv_keys {ns : List Str} {vs : List V} (h : vs.length = ns.length) : (kv ns vs).map (fun p => kV p.1) = ns.map V.str := by
  unfold kv
  rw [List.map_map]
  have : ((fun p : Key × V => kV p.1) ∘ fun p : Str × V => ((.inr p.1 : Key), p.2)) = V.str ∘ Prod.fst := rfl
  rw [this, ← List.map_map, List.map_fst_zip (by omega)]
/-! ### the questions and their answers -/
inductive X9 where
  | num (n : Int)
  | var (k : Nat) (p : Int)
  | item (j : Nat) (i : X9) (p : Int)
abbrev nm (ns : List Str) (k : Nat) : Str := ns.getD k ""
def X9.d (ns : List Str) : X9 → PyData
  | .num n => .tuple [.str "num", .int n]
  | .var k p => .tuple [.str "var", .str (nm ns k), .int p]
  | .item j i p => .tuple [.str "item", .str (nm ns (4 + j)), i.d ns, .int p]
def X9.plain : X9 → Prop
  | .num _ => True
  | .var k _ => k < 4
  | .item _ _ _ => False
def X9.good : X9 → Prop
  | .num _ => True
  | .var k _ => k < 4
  | .item j i _ => j < 2 ∧ i.plain
theorem X9.plain.good {e : X9} (h : e.plain) : e.good := by
  cases e with
  | num _ => exact True.intro
  | var _ _ => exact h
  | item _ _ _ => exact h.elim
def X9.dep : X9 → Nat
  | .item _ _ _ => 1
  | _ => 0
theorem X9.plain.dep {e : X9} (h : e.plain) : e.dep = 0 := by
  cases e with
  | num _ => rfl
  | var _ _ => rfl
  | item _ _ _ => exact h.elim
theorem X9.dep_le (e : X9) : e.dep < 2 := by
  cases e <;> simp [X9.dep]
def X9.ev (is : List Int) (ls : List (List Int)) : X9 → Option Int
  | .num n => some n
  | .var k p => some (is.getD k 0 + p)
  | .item j i p => match i.ev is ls with
    | none => none
    | some a => if 0 ≤ a ∧ a < (ls.getD j []).length then some ((ls.getD j []).getD a.toNat 0 + p) else none
def oI : Option Int → V
  | none => .non
  | some i => .int i
def oB : Option Bool → V
  | none => .non
  | some b => .bl b
theorem X9.plain.ev {e : X9} (h : e.plain) (is : List Int) (ls : List (List Int)) : ∃ i, e.ev is ls = some i := by
  cases e with
  | num n => exact ⟨n, rfl⟩
  | var k p => exact ⟨_, rfl⟩
  | item _ _ _ => exact h.elim
abbrev SG : List Str := ["<", "<=", ">", ">=", "==", "!="]
def cmpB : Nat → Int → Int → Bool
  | 0, a, b => decide (a < b)
  | 1, a, b => decide (a ≤ b)
  | 2, a, b => decide (a > b)
  | 3, a, b => decide (a ≥ b)
  | 4, a, b => decide (a = b)
  | _, a, b => !decide (a = b)
inductive Cn where
  | cmp (k : Nat) (l r : X9)
  | no (c : Cn)
  | jn (o : Bool) (cs : List Cn)
abbrev jw (o : Bool) : Str := if o then "or" else "and"
mutual
def Cn.d (ns : List Str) : Cn → PyData
  | .cmp k l r => .tuple [.str "cmp", .str (SG.getD k ""), l.d ns, r.d ns]
  | .no c => .tuple [.str "not", c.d ns]
  | .jn o cs => .tuple [.str (jw o), .tuple (Cn.ds ns cs)]
def Cn.ds (ns : List Str) : List Cn → List PyData
  | [] => []
  | c :: cs => c.d ns :: Cn.ds ns cs
end
mutual
def Cn.ok : Nat → Cn → Prop
  | _, .cmp k l r => k < 6 ∧ l.good ∧ r.good
  | 0, .no _ => False
  | n + 1, .no c => c.ok n
  | 0, .jn _ _ => False
  | n + 1, .jn _ cs => Cn.oks n cs
def Cn.oks : Nat → List Cn → Prop
  | _, [] => True
  | n, c :: cs => c.ok n ∧ Cn.oks n cs
end
def cmpO (k : Nat) : Option Int → Option Int → Option Bool
  | some a, some b => some (cmpB k a b)
  | _, _ => none
mutual
def Cn.ev (is : List Int) (ls : List (List Int)) : Cn → Option Bool
  | .cmp k l r => cmpO k (l.ev is ls) (r.ev is ls)
  | .no c => (c.ev is ls).map fun b => !b
  | .jn o cs => Cn.evs is ls o cs
def Cn.evs (is : List Int) (ls : List (List Int)) (o : Bool) : List Cn → Option Bool
  | [] => some (!o)
  | c :: cs => match c.ev is ls with
    | none => none
    | some b => if b = o then some b else Cn.evs is ls o cs
end
theorem Cn.ds_get {ns : List Str} : ∀ {cs : List Cn} {i : Nat} {c : Cn}, cs[i]? = some c → (Cn.ds ns cs)[i]? = some (c.d ns)
  | [], _, _, h => by cases h
  | c :: cs, 0, _, h => by
    cases h
    rfl
  | c :: cs, i + 1, _, h => by
    have h : cs[i]? = some _ := h
    exact Cn.ds_get (cs := cs) (i := i) h
theorem Cn.ds_len {ns : List Str} : ∀ {cs : List Cn}, (Cn.ds ns cs).length = cs.length
  | [] => rfl
  | c :: cs => congrArg (· + 1) Cn.ds_len
theorem Cn.ds_snoc {ns : List Str} {c : Cn} : ∀ {cs : List Cn}, Cn.ds ns (cs ++ [c]) = Cn.ds ns cs ++ [c.d ns]
  | [] => rfl
  | _ :: _ => congrArg (_ :: ·) Cn.ds_snoc
theorem Cn.oks_get {n : Nat} : ∀ {cs : List Cn} {i : Nat} {c : Cn}, Cn.oks n cs → cs[i]? = some c → c.ok n
  | [], _, _, _, h => by cases h
  | c :: cs, 0, _, g, h => by
    cases h
    exact g.1
  | c :: cs, i + 1, _, g, h => by
    have h : cs[i]? = some _ := h
    exact Cn.oks_get g.2 h
theorem Cn.oks_snoc {n : Nat} {c : Cn} : ∀ {cs : List Cn}, Cn.oks n cs → c.ok n → Cn.oks n (cs ++ [c])
  | [], _, h => ⟨h, True.intro⟩
  | _ :: _, g, h => ⟨g.1, Cn.oks_snoc g.2 h⟩
theorem Cn.evs_drop {is : List Int} {ls : List (List Int)} {o : Bool} {cs : List Cn} {i : Nat} {c : Cn} (h : cs[i]? = some c) :
    Cn.evs is ls o (cs.drop i) = match c.ev is ls with | none => none | some b => if b = o then some b else Cn.evs is ls o (cs.drop (i + 1)) := by
  obtain ⟨hl, e⟩ := List.getElem?_eq_some_iff.mp h
  rw [List.drop_eq_getElem_cons hl, e]
  rfl
/-! ### the parts of the data -/
theorem tp4 {H : Hp} {v : V} {d1 d2 d3 d4 : PyData} (h : Tp H v (.tuple [d1, d2, d3, d4])) : ∃ a v1 v2 v3 v4, v = .ref a ∧ H a = some (.tup [v1, v2, v3, v4]) ∧ Tp H v1 d1 ∧ Tp H v2 d2 ∧ Tp H v3 d3 ∧ Tp H v4 d4 := by
  cases h with
  | tup e r =>
    cases r with | cons h1 r => cases r with | cons h2 r => cases r with | cons h3 r => cases r with | cons h4 r =>
      cases r
      exact ⟨_, _, _, _, _, rfl, e, h1, h2, h3, h4⟩
theorem tp3 {H : Hp} {v : V} {d1 d2 d3 : PyData} (h : Tp H v (.tuple [d1, d2, d3])) : ∃ a v1 v2 v3, v = .ref a ∧ H a = some (.tup [v1, v2, v3]) ∧ Tp H v1 d1 ∧ Tp H v2 d2 ∧ Tp H v3 d3 := by
  cases h with
  | tup e r =>
    cases r with | cons h1 r => cases r with | cons h2 r => cases r with | cons h3 r =>
      cases r
      exact ⟨_, _, _, _, rfl, e, h1, h2, h3⟩
theorem tp2 {H : Hp} {v : V} {d1 d2 : PyData} (h : Tp H v (.tuple [d1, d2])) : ∃ a v1 v2, v = .ref a ∧ H a = some (.tup [v1, v2]) ∧ Tp H v1 d1 ∧ Tp H v2 d2 := by
  cases h with
  | tup e r =>
    cases r with | cons h1 r => cases r with | cons h2 r =>
      cases r
      exact ⟨_, _, _, rfl, e, h1, h2⟩
theorem tpL {H : Hp} {v : V} {ds : List PyData} (h : Tp H v (.tuple ds)) : ∃ a vs, v = .ref a ∧ H a = some (.tup vs) ∧ TpAll H vs ds := by
  cases h with
  | tup e r => exact ⟨_, _, rfl, e, r⟩
theorem tp_str {H : Hp} {v : V} {x : Str} (h : Tp H v (.str x)) : v = .str x := by
  cases h
  rfl
theorem tp_int {H : Hp} {v : V} {x : Int} (h : Tp H v (.int x)) : v = .int x := by
  cases h
  rfl
theorem tpSnoc {H : Hp} {v : V} {d : PyData} : ∀ {vs : List V} {ds : List PyData}, TpAll H vs ds → Tp H v d → TpAll H (vs ++ [v]) (ds ++ [d])
  | _, _, .nil, h => .cons h .nil
  | _, _, .cons h1 h2, h => .cons h1 (tpSnoc h2 h)
/-! ### the variables -/
def CellAt (H : Hp) (is : List Int) (ls : List (List Int)) (j : Nat) (v : V) : Prop :=
  (∃ x, is[j]? = some x ∧ v = .int x) ∨ ∃ a xs, 4 ≤ j ∧ ls[j - 4]? = some xs ∧ v = .ref a ∧ H a = some (.lst (xs.map V.int))
theorem CellAt.same {H H' : Hp} {is : List Int} {ls : List (List Int)} {j : Nat} {v : V} (s : Same H H') (c : CellAt H is ls j v) : CellAt H' is ls j v := by
  rcases c with c | ⟨a, xs, h1, h2, h3, h4⟩
  · exact .inl c
  · exact .inr ⟨a, xs, h1, h2, h3, s _ _ h4⟩
def EnvAt (H : Hp) (p : Addr) (ns : List Str) (is : List Int) (ls : List (List Int)) : Prop :=
  is.length = 4 ∧ ls.length = 2 ∧ ns.length = 6 ∧ ns.Nodup ∧ ∃ vs : List V, vs.length = 6 ∧ H p = some (.dK (kv ns vs)) ∧ ∀ j v, vs[j]? = some v → CellAt H is ls j v
theorem EnvAt.same {H H' : Hp} {p : Addr} {ns : List Str} {is : List Int} {ls : List (List Int)} (s : Same H H') (e : EnvAt H p ns is ls) : EnvAt H' p ns is ls := by
  obtain ⟨h1, h2, h3, h4, vs, h5, h6, h7⟩ := e
  exact ⟨h1, h2, h3, h4, vs, h5, s _ _ h6, fun j v g => (h7 j v g).same s⟩
theorem nm_at {ns : List Str} {k : Nat} (h : k < ns.length) : ns[k]? = some (nm ns k) := by
  unfold nm
  rw [List.getD_eq_getElem?_getD, List.getElem?_eq_getElem h]
  rfl
/-- a number out of the variables -/
theorem EnvAt.int {H : Hp} {p : Addr} {ns : List Str} {is : List Int} {ls : List (List Int)} (e : EnvAt H p ns is ls) {k : Nat} (hk : k < 4) : ∃ kvs, H p = some (.dK kvs) ∧ valV kvs (.inr (nm ns k)) = some (.int (is.getD k 0)) := by
  obtain ⟨h1, h2, h3, h4, vs, h5, h6, h7⟩ := e
  have g : vs[k]? = some vs[k] := List.getElem?_eq_getElem (by omega)
  refine ⟨_, h6, ?_⟩
  have e := kv_get h4 (nm_at (by omega)) g
  rw [e]
  rcases h7 k _ g with ⟨x, c1, c2⟩ | ⟨a, xs, c1, _⟩
  · rw [c2, List.getD_eq_getElem?_getD, c1]
    rfl
  · omega
theorem EnvAt.lst {H : Hp} {p : Addr} {ns : List Str} {is : List Int} {ls : List (List Int)} (e : EnvAt H p ns is ls) {j : Nat} (hj : j < 2) :
    ∃ kvs a, H p = some (.dK kvs) ∧ valV kvs (.inr (nm ns (4 + j))) = some (.ref a) ∧ H a = some (.lst ((ls.getD j []).map V.int)) := by
  obtain ⟨h1, h2, h3, h4, vs, h5, h6, h7⟩ := e
  have g : vs[4 + j]? = some vs[4 + j] := List.getElem?_eq_getElem (by omega)
  have e := kv_get h4 (nm_at (by omega)) g
  rcases h7 _ _ g with ⟨x, c1, c2⟩ | ⟨a, xs, c1, c2, c3, c4⟩
  · have := (List.getElem?_eq_some_iff.mp c1).1
    omega
  · refine ⟨_, a, h6, by rw [e, c3], ?_⟩
    have e2 : ls.getD j [] = xs := by
      rw [List.getD_eq_getElem?_getD]
      rw [show 4 + j - 4 = j by omega] at c2
      rw [c2]
      rfl
    rw [e2]
    exact c4
/-! ### the names -/
abbrev PADS : List Str := ["", "u", "zzzzzzzzzzz", "uz"]
def let9 (k : Nat) : Str := ⟨#[("abcdxy" : Str).cps.toList.getD k 0]⟩
def namesOf (k : Nat) : List Str := (PADS.map fun p => let9 k ++ p) ++ PADS.map fun p => p ++ let9 k
theorem names_apart : ∀ i, i < 6 → ∀ j, j < 6 → i ≠ j → ∀ x ∈ namesOf i, ∀ y ∈ namesOf j, x ≠ y := by decide +kernel
def NamesOk (ns : List Str) : Prop := ∀ i n, ns[i]? = some n → n ∈ namesOf i
theorem names_nodup {ns : List Str} (h : NamesOk ns) (hl : ns.length ≤ 6) : ns.Nodup := by
  rw [List.nodup_iff_pairwise_ne, List.pairwise_iff_getElem]
  intro i j hi hj lt
  exact names_apart i (by omega) j (by omega) (by omega) _ (h i _ (List.getElem?_eq_getElem hi)) _ (h j _ (List.getElem?_eq_getElem hj))
end WD
/-! WN: more rules and steps. -/
namespace WN
open PySem PySem.Spec PyProof.Rows L2 Wy
theorem sm {H H' : Hp} {a : Addr} {o : HO} (s : Same H H') (h : H a = some o) : H' a = some o := s _ _ h
theorem cm {l : Addr} {H H' : Hp} {a : Addr} {o : HO} (c : Chg l H H') (n : a ≠ l) (h : H a = some o) : H' a = some o := c.at h n
theorem ne_new {H : Hp} {a l : Addr} {o : HO} (n : H l = none) (h : H a = some o) : a ≠ l := ne_of_none h n
theorem iteTT {b : Bool} {A B : Prop} (e : b = true) (h : A) : if b = true then A else B := by
  rw [if_pos e]
  exact h
theorem iteFF {b : Bool} {A B : Prop} (e : b = false) (h : B) : if b = true then A else B := by
  rw [if_neg (by rw [e]; exact Bool.false_ne_true)]
  exact h
theorem iteB {b : Bool} {A B : Prop} (h1 : b = true → A) (h2 : b = false → B) : if b = true then A else B := by
  cases b with
  | true => exact iteTT rfl (h1 rfl)
  | false => exact iteFF rfl (h2 rfl)
/-- a decided question -/
theorem iteD {p : Prop} [Decidable p] {A B : Prop} (h1 : p → A) (h2 : ¬ p → B) : if decide p = true then A else B := ite2 (fun e => h1 (of_decide_eq_true e)) fun e => h2 fun x => e (decide_eq_true x)
theorem iteND {p : Prop} [Decidable p] {A B : Prop} (h1 : ¬ p → A) (h2 : p → B) : if (!decide p) = true then A else B := by
  by_cases h : p
  · exact iteFF (by rw [decide_eq_true h]; rfl) (h2 h)
  · exact iteTT (by rw [decide_eq_false h]; rfl) (h1 h)
theorem nRN (a : Addr) : decide (V.ref a = V.non) = false := decide_eq_false (fun e => nomatch e)
theorem nIN (a : Int) : decide (V.int a = V.non) = false := decide_eq_false (fun e => nomatch e)
theorem nSN (a : Str) : decide (V.str a = V.non) = false := decide_eq_false (fun e => nomatch e)
theorem nBN (a : Bool) : decide (V.bl a = V.non) = false := decide_eq_false (fun e => nomatch e)
theorem nNRN (a : Addr) : (!decide (V.ref a = V.non)) = true := by rw [nRN]; rfl
theorem nNIN (a : Int) : (!decide (V.int a = V.non)) = true := by rw [nIN]; rfl
theorem nNSN (a : Str) : (!decide (V.str a = V.non)) = true := by rw [nSN]; rfl
theorem nNBN (a : Bool) : (!decide (V.bl a = V.non)) = true := by rw [nBN]; rfl
theorem dI (a b : Int) : decide (V.int a = V.int b) = decide (a = b) := by
  by_cases h : a = b
  · subst h
    rw [decide_eq_true rfl, decide_eq_true rfl]
  · rw [decide_eq_false h, decide_eq_false (fun e => h (V.int.inj e))]
theorem iteI {i j : Int} {A B : Prop} (h1 : i = j → A) (h2 : ¬ i = j → B) : if decide (V.int i = V.int j) = true then A else B := by
  rw [dI]
  exact iteD h1 h2
theorem iteNI {i j : Int} {A B : Prop} (h1 : ¬ i = j → A) (h2 : i = j → B) : if (!decide (V.int i = V.int j)) = true then A else B := by
  rw [dI]
  exact iteND h1 h2
theorem free_of {H H' : Hp} {a : Addr} (n : H' a = none) (s : Same H H') : H a = none := s.free n
theorem dB (a b : Bool) : decide (V.bl a = V.bl b) = decide (a = b) := by cases a <;> cases b <;> rfl
section
variable {X : Cx}
def rAll2 (K : PySem.W.Frag) : List V → Hp → VK → Prop := rAll K
theorem call_all2 (hc : X.calm = true) : CallR X (.builtin "all") (rAll2 X.K) := cr_all hc
def rSum2 (K : PySem.W.Frag) : List V → Hp → VK → Prop := rSum K
theorem call_sum2 (hc : X.calm = true) : CallR X (.builtin "sum") (rSum2 X.K) := cr_sum hc
def rMx2 (_ : PySem.W.Frag) : List V → Hp → VK → Prop := fun xs H Q => ∃ i j, xs = [.int i, .int j] ∧ Q (.int (if j > i then j else i)) H
theorem call_mx2 (hc : X.calm = true) : CallR X (.builtin "max") (rMx2 X.K) := call_max2 hc
def rMn2 (_ : PySem.W.Frag) : List V → Hp → VK → Prop := fun xs H Q => ∃ i j, xs = [.int i, .int j] ∧ Q (.int (if j < i then j else i)) H
theorem call_mn2 (hc : X.calm = true) : CallR X (.builtin "min") (rMn2 X.K) := call_min2 hc
def rIsi2 (K : PySem.W.Frag) : List V → Hp → VK → Prop := fun xs H Q => rIsi K xs H Q ∨ rIsiT K xs H Q
theorem call_isi2 : CallR X (.builtin "isinstance") (rIsi2 X.K) := Wy.CallR.or call_isi call_isiT
/-- a call of a built-in that wants calm -/
theorem pe_callC {id : String} {x : Str} {e : Expr} {es : List Expr} {p pos : Pos} {t : TA} {r : PySem.W.Frag → List V → Hp → VK → Prop} (hc : ∀ X : Cx, X.calm = true → CallR X (.builtin id) (r X.K)) (hg : Gl X x) (hm : X.mg x = none) (hv : bootBuiltins x = some (.builtin id)) (ha : PA X (e :: es) t) (hcalm : X.calm = true := by rfl) (hn : x ≠ "__name__" := by decide) (hdb : (x == ("__debug__" : Str)) = false := by decide)
    (he : starEach (e :: es) X.env = (false, eval e X.env) :: starEach es X.env := by rfl) (hpl : (backTo pos (starEach es X.env)).any (·.1) = false := by rfl) : PE X (.Call (.Name x p) (e :: es) [] pos) (tCB (r X.K) t) :=
  pe_callB (hc X hcalm) hg hm hv ha hn hdb he hpl
theorem cc_all (X : Cx) (h : X.calm = true) : CallR X (.builtin "all") (rAll2 X.K) := call_all2 h
theorem cc_sum (X : Cx) (h : X.calm = true) : CallR X (.builtin "sum") (rSum2 X.K) := call_sum2 h
theorem cc_max (X : Cx) (h : X.calm = true) : CallR X (.builtin "max") (rMx2 X.K) := call_mx2 h
theorem cc_min (X : Cx) (h : X.calm = true) : CallR X (.builtin "min") (rMn2 X.K) := call_mn2 h
/-- repr of data -/
def rRepr (K : PySem.W.Frag) : List V → Hp → VK → Prop := fun xs H Q => ∃ (a : Addr) (d : PyData), xs = [.ref a] ∧ Dp K H (.ref a) d ∧ d.showable = true ∧ d.hasDict = false ∧ d.depth ≤ 60 ∧ d.shown.length ≤ sizeLine ∧ Q (.str d.shown) H
end
section
variable {K : PySem.W.Frag} {H : Hp} {Q : VK} {v x y : V} {b : Bool}
theorem o_fdW {f : Int → Int → V} {i j : Int} (h1 : 0 < j) (h2 : j ≤ 10 ^ 90) (h : Q (f i j) H) : rI CDivW f (.int i) (.int j) H Q :=
  ⟨i, j, rfl, rfl, wide_div (b := 400) h1 (by
    have : (10 : Int) ^ 90 < 2 ^ 400 := by decide +kernel
    omega) (by decide) (by decide), h⟩
/-- a rest, its bounds alone -/
theorem o_modG {i j : Int} (h1 : 0 < j) (h : ∀ r : Int, 0 ≤ r → r < j → Q (.int r) H) : rI (fun _ j => 0 < j) (fun i j => .int (i % j)) (.int i) (.int j) H Q := o_mod h1 (h _ (Int.emod_nonneg _ (by omega)) (Int.emod_lt_of_pos _ h1))
theorem b_all {a : Addr} {bs : List Bool} (hs : SqL K H a (bs.map V.bl)) (h : Q (.bl (bs.all id)) H) : rAll2 K [.ref a] H Q := ⟨a, bs, rfl, hs, h⟩
theorem b_sum {a : Addr} {ns : List Int} (hs : SqL K H a (ns.map V.int)) (h : Q (.int ns.sum) H) : rSum2 K [.ref a] H Q := ⟨a, ns, rfl, hs, h⟩
theorem b_mx {i j : Int} (h : Q (.int (max i j)) H) : rMx2 K [.int i, .int j] H Q := ⟨i, j, rfl, by
  have e : (if j > i then j else i) = max i j := by split <;> omega
  rw [e]
  exact h⟩
theorem b_mn {i j : Int} (h : Q (.int (min i j)) H) : rMn2 K [.int i, .int j] H Q := ⟨i, j, rfl, by
  have e : (if j < i then j else i) = min i j := by split <;> omega
  rw [e]
  exact h⟩
theorem b_is2 {n : String} {x : V} {tv : Value} (ty : TyX K H x tv) (h : PySem.W.kitOne K tv (.type n) = some b) (q : Q (.bl b) H) : rIsi2 K [x, .ty n] H Q := .inl (b_isi ty h q)
theorem ls_new {a : Addr} {xs : List V} (hs : SqL K H a xs) (h : ∀ p H2, H p = none → Same H H2 → H2 p = some (.lst xs) → Q (.ref p) H2) : rLst K [.ref a] H Q := ⟨a, xs, rfl, .inl hs, new_same h⟩
theorem ls_newT {a : Addr} {xs : List V} (hs : SqT K H a xs) (h : ∀ p H2, H p = none → Same H H2 → H2 p = some (.lst xs) → Q (.ref p) H2) : rLst K [.ref a] H Q := ⟨a, xs, rfl, .inr hs, new_same h⟩
theorem tp_new {a : Addr} {xs : List V} (hs : SqL K H a xs) (h : ∀ p H2, H p = none → Same H H2 → H2 p = some (.tup xs) → Q (.ref p) H2) : W6.rTup K [.ref a] H Q := W6.b_tup hs h
theorem tp_same {a : Addr} {xs : List V} (hs : SqT K H a xs) (h : Q (.ref a) H) : W6.rTup K [.ref a] H Q := ⟨a, xs, rfl, .inr ⟨hs, h⟩⟩
end
/-! ### draws -/
/-- each draw lies below its size -/
inductive Dr : List Int → List Int → Prop
  | nil : Dr [] []
  | cons {d s : Int} {ds ss : List Int} : 0 ≤ d → d < s → Dr ds ss → Dr (d :: ds) (s :: ss)
theorem Dr.len : ∀ {ds ss : List Int}, Dr ds ss → ds.length = ss.length
  | _, _, .nil => rfl
  | _, _, .cons _ _ h => by rw [List.length_cons, List.length_cons, h.len]
theorem Dr.snoc : ∀ {ds ss : List Int} {d s : Int}, Dr ds ss → 0 ≤ d → d < s → Dr (ds ++ [d]) (ss ++ [s])
  | _, _, _, _, .nil, h1, h2 => .cons h1 h2 .nil
  | _, _, _, _, .cons a b h, h1, h2 => .cons a b (h.snoc h1 h2)
theorem Dr.at : ∀ {ds ss : List Int} {i : Nat} {s : Int}, Dr ds ss → ss[i]? = some s → ∃ d, ds[i]? = some d ∧ 0 ≤ d ∧ d < s
  | _, _, 0, _, .cons a b _, e => by cases e; exact ⟨_, rfl, a, b⟩
  | _, _, i + 1, _, .cons _ _ h, e => h.at (i := i) e
theorem Dr.get {ds ss : List Int} {i : Nat} {d : Int} (h : Dr ds ss) (e : ds[i]? = some d) : ∃ s, ss[i]? = some s ∧ 0 ≤ d ∧ d < s := by
  have hl := h.len
  have hi := (List.getElem?_eq_some_iff.mp e).1
  obtain ⟨d', e', h1, h2⟩ := h.at (i := i) (List.getElem?_eq_getElem (by omega))
  rw [e] at e'
  cases e'
  exact ⟨_, List.getElem?_eq_getElem (by omega), h1, h2⟩
theorem Dr.inv {ds ss : List Int} {s : Int} (h : Dr ds (s :: ss)) : ∃ d r, ds = d :: r ∧ 0 ≤ d ∧ d < s ∧ Dr r ss := by
  cases h with
  | cons h1 h2 h3 => exact ⟨_, _, rfl, h1, h2, h3⟩
theorem Dr.nil_inv {ds : List Int} (h : Dr ds []) : ds = [] := by
  cases h
  rfl
/-- sizes that may be drawn below -/
def SzOk (ss : List Int) : Prop := ss.length ≤ 1000 ∧ ∀ s ∈ ss, 0 < s ∧ s ≤ 10 ^ 80
theorem szOk_of {ss : List Int} (h : (decide (ss.length ≤ 1000) && ss.all fun s => decide (0 < s) && decide (s ≤ 10 ^ 80)) = true) : SzOk ss := by
  simp only [Bool.and_eq_true, decide_eq_true_eq, List.all_eq_true] at h
  exact h
def PR : List Int := [2147483647, 998244353, 1000000007, 1000000009, 4294967291, 1073741789, 536870909, 2305843009213693951]
theorem pr_at {j : Nat} (h : j < 8) : ∃ p, PR[j]? = some p ∧ 0 < p ∧ p < 2 ^ 62 := by
  have : ∀ j, j < 8 → 0 < PR.getD j 0 ∧ PR.getD j 0 < 2 ^ 62 := by decide +kernel
  exact ⟨PR.getD j 0, by rw [List.getD_eq_getElem?_getD, List.getElem?_eq_getElem (by exact h)]; rfl, this j h⟩
theorem ix_pr {K : PySem.W.Frag} {H : Hp} {Q : VK} {a : Addr} {i : Int} (e : H a = some (.lst (PR.map V.int))) (h0 : 0 ≤ i) (h8 : i < 8) (h : ∀ p : Int, 0 < p → p < 2 ^ 62 → Q (.int p) H) : rIx K (.ref a) (.int i) H Q := by
  obtain ⟨p, g, p1, p2⟩ := pr_at (j := i.toNat) (by omega)
  exact o_ixL (lst_of e) (atI_of (j := i.toNat) (by omega) (v := .int p) (by rw [List.getElem?_map, g]; rfl)) (h p p1 p2)
/-- an int out of a list of ints -/
theorem ix_int {K : PySem.W.Frag} {H : Hp} {Q : VK} {a : Addr} {xs : List Int} {i : Int} (hs : SqL K H a (xs.map V.int)) (h0 : 0 ≤ i) (h1 : i < xs.length) (h : ∀ x : Int, xs[i.toNat]? = some x → Q (.int x) H) : rIx K (.ref a) (.int i) H Q := by
  have e := List.getElem?_eq_getElem (l := xs) (i := i.toNat) (by omega)
  exact o_ixL hs (atI_of (j := i.toNat) (by omega) (v := .int xs[i.toNat]) (by rw [List.getElem?_map, e]; rfl)) (h _ e)
def spCellN (K : PySem.W.Frag) : Sp := fun vs H Q _ => ∃ (a : Addr) (ns : List Int) (k : Int), vs = [.ref a, .int k] ∧ SqL K H a (ns.map V.int) ∧ ∀ r : Int, Q (.int r) H
def spDraws (K : PySem.W.Frag) : Sp := fun vs H Q _ => ∃ (a b : Addr) (ns ss : List Int) (k : Int), vs = [.ref a, .int k, .ref b] ∧ SqL K H a (ns.map V.int) ∧ SqL K H b (ss.map V.int) ∧ SzOk ss ∧
  ∀ p H' ds, Same H H' → H p = none → H' p = some (.lst ((ds : List Int).map V.int)) → Dr ds ss → Q (.ref p) H'
/-! ### lists and tuples alike -/
def iSeq (K : PySem.W.Frag) (te : TE) : TI := fun σ H R => iList K te σ H R ∨ iTup K te σ H R
theorem pi_seq {X : Cx} {tg e : Expr} {te : TE} (h : PE X e te) : PI X tg e (iSeq X.K te) := ⟨fun pins s σ H R I q => q.elim (fun q => (pi_list h).run pins s σ H R I q) (fun q => (pi_tup h).run pins s σ H R I q)⟩
theorem w_sl {K : PySem.W.Frag} {te : TE} {σ : L2.St} {H : Hp} {R : It → Hp → Prop} (h : te σ H fun x H1 => KL K x H1 R) : iSeq K te σ H R := .inl h
theorem w_st {K : PySem.W.Frag} {te : TE} {σ : L2.St} {H : Hp} {R : It → Hp → Prop} (h : te σ H fun x H1 => KT K x H1 R) : iSeq K te σ H R := .inr h
def Sq (K : PySem.W.Frag) (H : Hp) (a : Addr) (xs : List V) : Prop := SqL K H a xs ∨ SqT K H a xs
theorem Sq.same {K : PySem.W.Frag} {H H' : Hp} {a : Addr} {xs : List V} (h : Sq K H a xs) (s : Same H H') : Sq K H' a xs := h.imp (fun h => s.seq h) fun h => seqT s h
/-- an iterator over such -/
def SqIt (K : PySem.W.Frag) (a : Addr) (xs : List V) (J : It) (H : Hp) : Prop := (J = Itl K a ∧ SqL K H a xs) ∨ (J = Itt K a ∧ SqT K H a xs)
theorem SqIt.same {K : PySem.W.Frag} {H H' : Hp} {a : Addr} {xs : List V} {J : It} (h : SqIt K a xs J H) (s : Same H H') : SqIt K a xs J H' := h.imp (fun h => ⟨h.1, s.seq h.2⟩) fun h => ⟨h.1, seqT s h.2⟩
section
variable {K : PySem.W.Frag} {σ : L2.St} {H : Hp} {Q : VK} {D : Ends} {t : TS} {te : TE} {tt : TT} {g : TG} {a : Addr} {xs : List V} {vs : List Nat} {i : Nat} {J : It}
/-- for x in v, v a slot -/
theorem w_sq {R : It → Hp → Prop} (hs : Sq K H a xs) (e : σ[i]? = some (some (.ref a))) (h : ∀ J, SqIt K a xs J H → R J H) : iSeq K (tVar i) σ H R := by
  rcases hs with hs | hs
  · exact .inl (w_l (e_var e (k_l hs (h _ (.inl ⟨rfl, hs⟩)))))
  · exact .inr (w_t (e_var e (k_t hs (h _ (.inr ⟨rfl, hs⟩)))))
theorem f_sq {H0 : Hp} (hJ : SqIt K a xs J H0) (Pv : Nat → L2.St → Hp → Prop) (h0 : Pv 0 σ H) (hl : ∀ i σ H, Pv i σ H → Same H0 H)
    (hs : ∀ i x σ H, xs[i]? = some x → Pv i σ H → g x σ H fun σ2 H2 => t ⟨Pv (i + 1), D.rt, D.nx, Pv (i + 1)⟩ σ2 H2) (hd : ∀ σ H, Pv xs.length σ H → D.nx σ H) : LoopF J g t D σ H := by
  rcases hJ with ⟨rfl, hJ⟩ | ⟨rfl, hJ⟩
  · exact f_list Pv h0 (fun i σ H _ p => (hl i σ H p).seq hJ) hs hd
  · exact f_tup Pv h0 (fun i σ H _ p => seqT (hl i σ H p) hJ) hs hd
/-- a list comprehension: what is taken so far -/
theorem c_acc (hJ : SqIt K a xs J H) (R : Nat → List V → Hp → Prop) (mono : ∀ i acc H H', TK H H' → R i acc H → R i acc H') (small : ∀ i acc H, i ≤ xs.length → R i acc H → acc.length < sizeLine) (r0 : R 0 [] H)
    (step : ∀ i x H1 acc (N : VK) (M : Hp → Prop), xs[i]? = some x → Same H H1 → R i acc H1 → (∀ y H3, Same H1 H3 → R (i + 1) (acc ++ [y]) H3 → N y H3) → (∀ H3, Same H1 H3 → R (i + 1) acc H3 → M H3) →
      g x (wipe σ vs) H1 fun σ2 H2 => wipe σ2 vs = wipe σ vs ∧ tt σ2 H2 fun b H3 => if b = true then te σ2 H3 N else M H3)
    (post : ∀ D H2 ys, H D = none → Same H H2 → H2 D = some (.lst ys) → R xs.length ys H2 → Q (.ref D) H2) : LoopC J g tt te vs σ H Q := by
  have key : ∀ (D : Addr) (i : Nat) (x : V) (H1 : Hp), xs[i]? = some x → H D = none → (Same H H1 ∧ ∃ acc, H1 D = some (.lst acc) ∧ R i acc H1) → g x (wipe σ vs) H1 fun σ2 H2 => wipe σ2 vs = wipe σ vs ∧ tt σ2 H2 fun b H3 =>
      if b = true then te σ2 H3 fun y H4 => COut D y H4 (fun H5 => Same H H5 ∧ ∃ acc, H5 D = some (.lst acc) ∧ R (i + 1) acc H5) else (fun H5 => Same H H5 ∧ ∃ acc, H5 D = some (.lst acc) ∧ R (i + 1) acc H5) H3 := by
    intro D i x H1 hx nD ⟨s1, acc, e1, r1⟩
    have hi := (List.getElem?_eq_some_iff.mp hx).1
    refine step i x H1 acc _ _ hx s1 r1 (fun y H3 s3 r3 => ?_) (fun H3 s3 r3 => ⟨s1.trans s3, acc, s3 _ _ e1, r3⟩)
    refine c_out (s3 _ _ e1) (small i acc H1 (by omega) r1) fun H4 c4 e4 => ⟨c4.same (s1.trans s3) nD, _, e4, mono _ _ _ _ (c4.tk (s3 _ _ e1)) r3⟩
  have p0 : ∀ (D : Addr) (H1 : Hp), H D = none → Same H H1 → H1 D = some (.lst []) → (Same H H1 ∧ ∃ acc, H1 D = some (.lst acc) ∧ R 0 acc H1) := fun D H1 nD s1 e1 => ⟨s1, [], e1, mono _ _ _ _ s1.tk r0⟩
  have pe : ∀ (D : Addr) (H1 : Hp), H D = none → (Same H H1 ∧ ∃ acc, H1 D = some (.lst acc) ∧ R xs.length acc H1) → Q (.ref D) H1 := fun D H1 nD ⟨s1, acc, e1, r1⟩ => post D H1 acc nD s1 e1 r1
  rcases hJ with ⟨rfl, hJ⟩ | ⟨rfl, hJ⟩
  · exact c_list (fun D i H1 => Same H H1 ∧ ∃ acc, H1 D = some (.lst acc) ∧ R i acc H1) p0 (fun D i H1 _ _ p => p.1.seq hJ) (fun D i x H1 hx nD p => key D i x H1 hx nD p) pe
  · exact fun D nD => lc_tup (fun i H1 => Same H H1 ∧ ∃ acc, H1 D = some (.lst acc) ∧ R i acc H1) (p0 D _ nD (same_new nD) upd_same) (fun i H1 _ p => seqT p.1 hJ) (fun i x H1 hx p => key D i x H1 hx nD p) fun H1 p => pe D H1 nD p
theorem c_accR {lo : Int} {n : Nat} (R : Nat → List V → Hp → Prop) (mono : ∀ i acc H H', TK H H' → R i acc H → R i acc H') (small : ∀ i acc H, i ≤ n → R i acc H → acc.length < sizeLine) (r0 : R 0 [] H)
    (step : ∀ i H1 acc (N : VK) (M : Hp → Prop), i < n → Same H H1 → R i acc H1 → (∀ y H3, Same H1 H3 → R (i + 1) (acc ++ [y]) H3 → N y H3) → (∀ H3, Same H1 H3 → R (i + 1) acc H3 → M H3) →
      g (.int (lo + i)) (wipe σ vs) H1 fun σ2 H2 => wipe σ2 vs = wipe σ vs ∧ tt σ2 H2 fun b H3 => if b = true then te σ2 H3 N else M H3)
    (post : ∀ D H2 ys, H D = none → Same H H2 → H2 D = some (.lst ys) → R n ys H2 → Q (.ref D) H2) : LoopC (Itr lo n) g tt te vs σ H Q := by
  refine c_range (fun D i H1 => Same H H1 ∧ ∃ acc, H1 D = some (.lst acc) ∧ R i acc H1) (fun D H1 nD s1 e1 => ⟨s1, [], e1, mono _ _ _ _ s1.tk r0⟩) (fun D i H1 hi nD p => ?_) (fun D H1 nD ⟨s1, acc, e1, r1⟩ => post D H1 acc nD s1 e1 r1)
  obtain ⟨s1, acc, e1, r1⟩ := p
  refine step i H1 acc _ _ hi s1 r1 (fun y H3 s3 r3 => ?_) (fun H3 s3 r3 => ⟨s1.trans s3, acc, s3 _ _ e1, r3⟩)
  refine c_out (s3 _ _ e1) (small i acc H1 (by omega) r1) fun H4 c4 e4 => ⟨c4.same (s1.trans s3) nD, _, e4, mono _ _ _ _ (c4.tk (s3 _ _ e1)) r3⟩
end
/-- one value an item -/
def One (P : Nat → V → Hp → Prop) (i : Nat) (acc : List V) (H : Hp) : Prop := acc.length = i ∧ ∀ j y, acc[j]? = some y → P j y H
theorem One.zero {P : Nat → V → Hp → Prop} {H : Hp} : One P 0 [] H := ⟨rfl, fun j y e => by cases e⟩
theorem One.snoc {P : Nat → V → Hp → Prop} {i : Nat} {acc : List V} {H H3 : Hp} {y : V} (mono : ∀ j z, P j z H → P j z H3) (o : One P i acc H) (h : P i y H3) : One P (i + 1) (acc ++ [y]) H3 := by
  refine ⟨by rw [List.length_append, o.1]; rfl, fun j z e => ?_⟩
  by_cases hj : j < acc.length
  · rw [List.getElem?_append_left hj] at e
    exact mono _ _ (o.2 j z e)
  · have hj2 := (List.getElem?_eq_some_iff.mp e).1
    rw [List.length_append, List.length_singleton] at hj2
    have : j = acc.length := by omega
    subst this
    rw [List.getElem?_append_right (Nat.le_refl _), Nat.sub_self] at e
    cases e
    rw [o.1]
    exact h
/-- the list is known from its items -/
theorem One.eq {P : Nat → V → Hp → Prop} {α : Type} {F : α → V} {xs : List α} {acc : List V} {H : Hp} (o : One P xs.length acc H) (h : ∀ j y, j < xs.length → P j y H → xs[j]?.map F = some y) : acc = xs.map F := by
  refine List.ext_getElem? fun j => ?_
  by_cases hj : j < xs.length
  · have hj2 : j < acc.length := by rw [o.1]; exact hj
    rw [List.getElem?_map, h j _ hj (o.2 j acc[j] (List.getElem?_eq_getElem hj2)), List.getElem?_eq_getElem hj2]
  · rw [List.getElem?_eq_none (by rw [o.1]; omega), List.getElem?_eq_none (by rw [List.length_map]; omega)]
theorem One.eqR {P : Nat → V → Hp → Prop} {n : Nat} {F : Nat → V} {acc : List V} {H : Hp} (o : One P n acc H) (h : ∀ j y, j < n → P j y H → y = F j) : acc = (List.range n).map F := by
  refine One.eq (xs := List.range n) (F := F) (by rw [List.length_range]; exact o) fun j y hj p => ?_
  rw [List.length_range] at hj
  rw [List.getElem?_range hj, h j y hj p]
  rfl
theorem One.ints {P : Nat → V → Hp → Prop} {n : Nat} {acc : List V} {H : Hp} (o : One P n acc H) (h : ∀ j y, j < n → P j y H → ∃ i : Int, y = .int i) : ∃ xs : List Int, acc = xs.map V.int ∧ xs.length = n := by
  have key : ∀ acc : List V, (∀ y ∈ acc, ∃ i : Int, y = .int i) → ∃ xs : List Int, acc = xs.map V.int := by
    intro acc
    induction acc with
    | nil => exact fun _ => ⟨[], rfl⟩
    | cons y r ih =>
      intro h
      obtain ⟨i, rfl⟩ := h y List.mem_cons_self
      obtain ⟨xs, rfl⟩ := ih fun z hz => h z (List.mem_cons_of_mem _ hz)
      exact ⟨i :: xs, rfl⟩
  obtain ⟨xs, e⟩ := key acc fun y hy => by
    obtain ⟨j, hj, e⟩ := List.getElem_of_mem hy
    exact h j y (by rw [← o.1]; exact hj) (o.2 j y (by rw [List.getElem?_eq_getElem hj, e]))
  exact ⟨xs, e, by rw [← o.1, e, List.length_map]⟩
/-- `xs` with the pattern n times -/
theorem One.const {n : Nat} {acc : List V} {H : Hp} {v : V} (o : One (fun _ y _ => y = v) n acc H) : acc = List.replicate n v := by
  refine List.ext_getElem? fun j => ?_
  rw [List.getElem?_replicate]
  by_cases hj : j < n
  · rw [if_pos hj, List.getElem?_eq_getElem (by rw [o.1]; exact hj), o.2 j _ (List.getElem?_eq_getElem (by rw [o.1]; exact hj))]
  · rw [if_neg hj, List.getElem?_eq_none (by rw [o.1]; omega)]
end WN
/-! WQ: data that is equal. -/
namespace WQ
open PySem PySem.Spec PyProof.Rows L2 Wy WN
mutual
/-- no truth value in it -/
def nb : PyData → Bool
  | .none => true
  | .bool _ => false
  | .int _ => true
  | .str _ => true
  | .list xs => nbAll xs
  | .tuple xs => nbAll xs
  | .dict _ => false
def nbAll : List PyData → Bool
  | [] => true
  | x :: xs => nb x && nbAll xs
end
mutual
theorem eqv_iff : ∀ (d e : PyData), nb d = true → nb e = true → (PyData.eqv d e = true ↔ d = e)
  | .none, e, _, h => by cases e <;> simp [PyData.eqv, nb] at h ⊢
  | .bool _, _, h, _ => by simp [nb] at h
  | .int i, e, _, h => by cases e <;> simp [PyData.eqv, nb] at h ⊢
  | .str x, e, _, h => by cases e <;> simp [PyData.eqv, nb] at h ⊢
  | .list xs, e, h, h' => by
    cases e with
    | list ys =>
      have ih := eqvAll_iff xs ys (by simpa [nb] using h) (by simpa [nb] using h')
      simp [PyData.eqv, ih]
    | _ => simp [PyData.eqv, nb] at h' ⊢
  | .tuple xs, e, h, h' => by
    cases e with
    | tuple ys =>
      have ih := eqvAll_iff xs ys (by simpa [nb] using h) (by simpa [nb] using h')
      simp [PyData.eqv, ih]
    | _ => simp [PyData.eqv, nb] at h' ⊢
  | .dict _, _, h, _ => by simp [nb] at h
theorem eqvAll_iff : ∀ (xs ys : List PyData), nbAll xs = true → nbAll ys = true → (PyData.eqvAll xs ys = true ↔ xs = ys)
  | [], [], _, _ => by simp [PyData.eqvAll]
  | [], _ :: _, _, _ => by simp [PyData.eqvAll]
  | _ :: _, [], _, _ => by simp [PyData.eqvAll]
  | x :: xs, y :: ys, h, h' => by
    simp only [nbAll, Bool.and_eq_true] at h h'
    have i1 := eqv_iff x y h.1 h'.1
    have i2 := eqvAll_iff xs ys h.2 h'.2
    simp [PyData.eqvAll, i1, i2]
end
theorem shaped_of {d : PyData} (h : d.canLay0 = true) (h2 : d.depth ≤ 64) : SeqAt.shaped d = true := by
  unfold SeqAt.shaped
  rw [h, decide_eq_true h2]
  rfl
section
variable {K : PySem.W.Frag} {H : Hp} {Q : VK} {x y : V} {d e : PyData}
theorem eq_same (h1 : Dp K H x d) (h2 : Dp K H y d) (hs : SeqAt.shaped d = true) (h : Q (.bl true) H) : rEq2 K x y H Q := by
  refine o_eqD h1 h2 hs hs ?_
  rw [SeqAt.eqv_refl _ (SeqAt.canLay_of_shaped hs)]
  exact h
theorem ne_same (h1 : Dp K H x d) (h2 : Dp K H y d) (hs : SeqAt.shaped d = true) (h : Q (.bl false) H) : rNe2 K x y H Q := by
  refine o_neD h1 h2 hs hs ?_
  rw [SeqAt.eqv_refl _ (SeqAt.canLay_of_shaped hs)]
  exact h
theorem eq_nb (h1 : Dp K H x d) (h2 : Dp K H y e) (hs : SeqAt.shaped d = true) (hs2 : SeqAt.shaped e = true) (n1 : nb d = true) (n2 : nb e = true) (hy : d = e → Q (.bl true) H) (hn : d ≠ e → Q (.bl false) H) : rEq2 K x y H Q := by
  refine o_eqD h1 h2 hs hs2 ?_
  have i := eqv_iff d e n1 n2
  cases q : PyData.eqv d e with
  | true => exact hy (i.mp q)
  | false => exact hn fun z => by rw [i.mpr z] at q; cases q
theorem ne_nb (h1 : Dp K H x d) (h2 : Dp K H y e) (hs : SeqAt.shaped d = true) (hs2 : SeqAt.shaped e = true) (n1 : nb d = true) (n2 : nb e = true) (hy : d = e → Q (.bl false) H) (hn : d ≠ e → Q (.bl true) H) : rNe2 K x y H Q := by
  refine o_neD h1 h2 hs hs2 ?_
  have i := eqv_iff d e n1 n2
  cases q : PyData.eqv d e with
  | true => exact hy (i.mp q)
  | false => exact hn fun z => by rw [i.mpr z] at q; cases q
end
theorem lay_all {α : Type} (F : α → PyData) : ∀ xs : List α, (∀ x ∈ xs, (F x).canLay0 = true) → PyData.canLayAll0 (xs.map F) = true
  | [], _ => by simp [PyData.canLayAll0]
  | x :: xs, h => by simp [PyData.canLayAll0, h x List.mem_cons_self, lay_all F xs fun y hy => h y (List.mem_cons_of_mem _ hy)]
theorem dep_all {α : Type} (F : α → PyData) (n : Nat) : ∀ xs : List α, (∀ x ∈ xs, (F x).depth ≤ n) → PyData.depthAll (xs.map F) ≤ n
  | [], _ => by simp [PyData.depthAll]
  | x :: xs, h => by
    have h1 := h x List.mem_cons_self
    have h2 := dep_all F n xs fun y hy => h y (List.mem_cons_of_mem _ hy)
    simp only [List.map_cons, PyData.depthAll]
    omega
theorem nb_all {α : Type} (F : α → PyData) : ∀ xs : List α, (∀ x ∈ xs, nb (F x) = true) → nbAll (xs.map F) = true
  | [], _ => by simp [nbAll]
  | x :: xs, h => by simp [nbAll, h x List.mem_cons_self, nb_all F xs fun y hy => h y (List.mem_cons_of_mem _ hy)]
theorem shL {α : Type} (F : α → PyData) (xs : List α) (n : Nat) (hn : n < 64) (h : ∀ x ∈ xs, (F x).canLay0 = true ∧ (F x).depth ≤ n) : SeqAt.shaped (.list (xs.map F)) = true :=
  shaped_of (by simp [PyData.canLay0, lay_all F xs fun x hx => (h x hx).1]) (by have := dep_all F n xs fun x hx => (h x hx).2; simp only [PyData.depth]; omega)
theorem shT {α : Type} (F : α → PyData) (xs : List α) (n : Nat) (hn : n < 64) (h : ∀ x ∈ xs, (F x).canLay0 = true ∧ (F x).depth ≤ n) : SeqAt.shaped (.tuple (xs.map F)) = true :=
  shaped_of (by simp [PyData.canLay0, lay_all F xs fun x hx => (h x hx).1]) (by have := dep_all F n xs fun x hx => (h x hx).2; simp only [PyData.depth]; omega)
theorem lay_int (i : Int) : (PyData.int i).canLay0 = true ∧ (PyData.int i).depth ≤ 0 := ⟨by simp [PyData.canLay0], by simp [PyData.depth]⟩
theorem lay_bool (b : Bool) : (PyData.bool b).canLay0 = true ∧ (PyData.bool b).depth ≤ 0 := ⟨by simp [PyData.canLay0], by simp [PyData.depth]⟩
theorem lay_tup {ds : List PyData} {n : Nat} (h : ∀ x ∈ ds, x.canLay0 = true ∧ x.depth ≤ n) : (PyData.tuple ds).canLay0 = true ∧ (PyData.tuple ds).depth ≤ n + 1 := by
  have h1 := lay_all id ds fun x hx => (h x hx).1
  have h2 := dep_all id n ds fun x hx => (h x hx).2
  rw [List.map_id] at h1 h2
  exact ⟨by simp [PyData.canLay0, h1], by simp only [PyData.depth]; omega⟩
/-! values to data -/
theorem dp_ints {K : PySem.W.Frag} {H : Hp} : ∀ xs : List Int, DpAll K H (xs.map V.int) (xs.map PyData.int)
  | [] => .nil
  | x :: xs => .cons (.int x) (dp_ints xs)
theorem dp_bls {K : PySem.W.Frag} {H : Hp} : ∀ xs : List Bool, DpAll K H (xs.map V.bl) (xs.map PyData.bool)
  | [] => .nil
  | x :: xs => .cons (.bl x) (dp_bls xs)
theorem tp_ints {H : Hp} : ∀ xs : List Int, TpAll H (xs.map V.int) (xs.map PyData.int)
  | [] => .nil
  | x :: xs => .cons (.int x) (tp_ints xs)
theorem ints_tp {H : Hp} : ∀ {xs : List Int} {vs : List V}, TpAll H vs (xs.map PyData.int) → vs = xs.map V.int
  | [], _, h => by cases h; rfl
  | x :: xs, _, h => by
    cases h with
    | cons h1 h2 =>
      cases h1
      rw [ints_tp h2]
      rfl
theorem tpGet {α : Type} {F : α → PyData} {H : Hp} {us : List V} {xs : List α} {i : Nat} {u : V} (t : TpAll H us (xs.map F)) (e : us[i]? = some u) : ∃ x, xs[i]? = some x ∧ Tp H u (F x) := by
  have hl := t.length
  rw [List.length_map] at hl
  have hi := (List.getElem?_eq_some_iff.mp e).1
  have hx : xs[i]? = some xs[i] := List.getElem?_eq_getElem (by omega)
  obtain ⟨v, e2, tv⟩ := t.get (i := i) (d := F xs[i]) (by rw [List.getElem?_map, hx]; rfl)
  rw [e] at e2
  cases e2
  exact ⟨_, hx, tv⟩
theorem tpAt {α : Type} {F : α → PyData} {H : Hp} {us : List V} {xs : List α} {i : Nat} {x : α} (t : TpAll H us (xs.map F)) (e : xs[i]? = some x) : ∃ u, us[i]? = some u ∧ Tp H u (F x) :=
  t.get (by rw [List.getElem?_map, e]; rfl)
theorem tp3 {H : Hp} {v : V} {d1 d2 d3 : PyData} (h : Tp H v (.tuple [d1, d2, d3])) : ∃ a v1 v2 v3, v = .ref a ∧ H a = some (.tup [v1, v2, v3]) ∧ Tp H v1 d1 ∧ Tp H v2 d2 ∧ Tp H v3 d3 := by
  cases h with
  | tup e r =>
    cases r with | cons h1 r => cases r with | cons h2 r => cases r with | cons h3 r =>
      cases r
      exact ⟨_, _, _, _, rfl, e, h1, h2, h3⟩
theorem tp2 {H : Hp} {v : V} {d1 d2 : PyData} (h : Tp H v (.tuple [d1, d2])) : ∃ a v1 v2, v = .ref a ∧ H a = some (.tup [v1, v2]) ∧ Tp H v1 d1 ∧ Tp H v2 d2 := by
  cases h with
  | tup e r =>
    cases r with | cons h1 r => cases r with | cons h2 r =>
      cases r
      exact ⟨_, _, _, rfl, e, h1, h2⟩
theorem tpL {H : Hp} {v : V} {ds : List PyData} (h : Tp H v (.tuple ds)) : ∃ a vs, v = .ref a ∧ H a = some (.tup vs) ∧ TpAll H vs ds := by
  cases h with
  | tup e r => exact ⟨_, _, rfl, e, r⟩
theorem tpSnoc {H : Hp} {us : List V} {ds : List PyData} {v : V} {d : PyData} (t : TpAll H us ds) (h : Tp H v d) : TpAll H (us ++ [v]) (ds ++ [d]) := by
  induction us generalizing ds with
  | nil => cases t; exact .cons h .nil
  | cons u r ih => cases t with | cons a b => exact .cons a (ih b)
theorem tpApp {H : Hp} {us vs : List V} {ds es : List PyData} (t : TpAll H us ds) (h : TpAll H vs es) : TpAll H (us ++ vs) (ds ++ es) := by
  induction us generalizing ds with
  | nil => cases t; exact h
  | cons u r ih => cases t with | cons a b => exact .cons a (ih b)
theorem tpOf {H : Hp} : ∀ {us : List V} {ds : List PyData}, us.length = ds.length → (∀ (j : Nat) (y : V) (d : PyData), us[j]? = some y → ds[j]? = some d → Tp H y d) → TpAll H us ds
  | [], [], _, _ => .nil
  | [], _ :: _, h, _ => by simp at h
  | _ :: _, [], h, _ => by simp at h
  | u :: us, d :: ds, h, g => .cons (g 0 u d rfl rfl) (tpOf (by simpa using h) fun j y d a b => g (j + 1) y d (by simpa using a) (by simpa using b))
/-- one by one over a range -/
theorem tpOne {P : Nat → V → Hp → Prop} {F : Nat → PyData} {n : Nat} {us : List V} {H : Hp} (o : One P n us H) (h : ∀ j y, j < n → P j y H → Tp H y (F j)) : TpAll H us ((List.range n).map F) :=
  tpOf (by rw [o.1, List.length_map, List.length_range]) fun j y d a b => by
    have hj : j < n := by have := (List.getElem?_eq_some_iff.mp a).1; rw [o.1] at this; exact this
    rw [List.getElem?_map, List.getElem?_range hj] at b
    cases b
    exact h j y hj (o.2 j y a)
/-- tuples of ints -/
def iT (xs : List Int) : PyData := .tuple (xs.map .int)
theorem tpI {H : Hp} {v : V} {xs : List Int} (h : Tp H v (iT xs)) : ∃ a, v = .ref a ∧ H a = some (.tup (xs.map V.int)) := by
  obtain ⟨a, vs, rfl, e, t⟩ := tpL h
  rw [ints_tp t] at e
  exact ⟨a, rfl, e⟩
theorem iT_tp {H : Hp} {a : Addr} {xs : List Int} (e : H a = some (.tup (xs.map V.int))) : Tp H (.ref a) (iT xs) := .tup e (tp_ints xs)
theorem iT_lay (xs : List Int) : (iT xs).canLay0 = true ∧ (iT xs).depth ≤ 1 := lay_tup fun x hx => by
  obtain ⟨i, _, rfl⟩ := List.mem_map.mp hx
  exact lay_int i
theorem nb_int : ∀ xs : List Int, nbAll (xs.map PyData.int) = true
  | [] => rfl
  | x :: xs => by simp [nbAll, nb, nb_int xs]
theorem iT_nb (xs : List Int) : nb (iT xs) = true := by
  show nbAll _ = true
  exact nb_int xs
end WQ
/-! WS: differences and values. -/
namespace WS
open PySem PySem.Spec PyProof.Rows L2 Wy WN WQ
abbrev Df := Int × Int × Int
def dfD (d : Df) : PyData := .tuple [.int d.1, .int d.2.1, .int d.2.2]
theorem dfD_lay (d : Df) : (dfD d).canLay0 = true ∧ (dfD d).depth ≤ 1 := lay_tup (n := 0) fun x hx => by
  simp only [List.mem_cons, List.not_mem_nil, or_false] at hx
  rcases hx with rfl | rfl | rfl <;> exact lay_int _
theorem dfD_nb (d : Df) : nb (dfD d) = true := rfl
/-- the value of a node -/
def lv (vs : List Int) (n : Int) : Int := (0 :: vs).getD n.toNat 0
def kept (vs : List Int) (d : Df) : Bool := decide (lv vs d.1 - lv vs d.2.1 ≤ d.2.2)
def InR (n : Nat) (d : Df) : Prop := 0 ≤ d.1 ∧ d.1 ≤ n ∧ 0 ≤ d.2.1 ∧ d.2.1 ≤ n
theorem lv_at {vs : List Int} {n : Int} (h0 : 0 ≤ n) (h1 : n ≤ vs.length) : ((0 :: vs).map V.int)[n.toNat]? = some (.int (lv vs n)) := by
  have : n.toNat < (0 :: vs).length := by rw [List.length_cons]; omega
  rw [List.getElem?_map, List.getElem?_eq_getElem this]
  unfold lv
  rw [List.getD_eq_getElem?_getD, List.getElem?_eq_getElem this]
  rfl
section
variable {K : PySem.W.Frag} {H : Hp} {Q : VK} {a : Addr} {xs : List V} {x y z : V}
theorem ix_lv {vs : List Int} {n : Int} (hs : SqL K H a ((0 :: vs).map V.int)) (h0 : 0 ≤ n) (h1 : n ≤ vs.length) (h : Q (.int (lv vs n)) H) : rIx K (.ref a) (.int n) H Q := o_ixL hs (atI_of (j := n.toNat) (by omega) (lv_at h0 h1)) h
theorem b_allT (hs : SqL K H a xs) (hx : ∀ (j : Nat) (y : V), xs[j]? = some y → y = .bl true) (h : Q (.bl true) H) : rAll2 K [.ref a] H Q := by
  have e : xs = (List.replicate xs.length true).map V.bl := by
    refine List.ext_getElem? fun j => ?_
    rw [List.getElem?_map, List.getElem?_replicate]
    by_cases hj : j < xs.length
    · rw [if_pos hj, List.getElem?_eq_getElem hj, hx j _ (List.getElem?_eq_getElem hj)]
      rfl
    · rw [if_neg hj, List.getElem?_eq_none (by omega)]
      rfl
  rw [e] at hs
  refine b_all hs ?_
  have : (List.replicate xs.length true).all id = true := by simp
  rw [this]
  exact h
/-- all of truths that are known one by one -/
theorem b_allM {α : Type} {ds : List α} {f : α → Bool} (hs : SqL K H a (ds.map fun d => V.bl (f d))) (h : Q (.bl (ds.all f)) H) : rAll2 K [.ref a] H Q := by
  have e : ds.map (fun d => V.bl (f d)) = (ds.map f).map V.bl := by rw [List.map_map]; rfl
  rw [e] at hs
  refine b_all hs ?_
  have : (ds.map f).all id = ds.all f := by rw [List.all_map]; rfl
  rw [this]
  exact h
theorem b_len0 (hs : SqL K H a []) (h : Q (.int 0) H) : rLn K [.ref a] H Q := b_lenL hs h
theorem b_lenT0 (hs : SqT K H a []) (h : Q (.int 0) H) : rLn K [.ref a] H Q := b_lenT hs h
theorem b_lenT1 (hs : SqT K H a [x]) (h : Q (.int 1) H) : rLn K [.ref a] H Q := b_lenT hs h
theorem b_lenT2 (hs : SqT K H a [x, y]) (h : Q (.int 2) H) : rLn K [.ref a] H Q := b_lenT hs h
theorem b_lenT3 (hs : SqT K H a [x, y, z]) (h : Q (.int 3) H) : rLn K [.ref a] H Q := b_lenT hs h
end
def spIsInt : Sp := fun vs H Q _ => ∃ i : Int, vs = [.int i] ∧ Q (.bl true) H
/-- all differences kept by values -/
def spKept (K : PySem.W.Frag) : Sp := fun vs H Q _ => ∃ (a b : Addr) (us : List V) (ds : List Df) (vals : List Int), vs = [.ref a, .ref b] ∧ Sq K H a us ∧ TpAll H us (ds.map dfD) ∧ H b = some (.lst (vals.map V.int)) ∧ (∀ d ∈ ds, InR vals.length d) ∧
  ds.length ≤ 1000 ∧ vals.length ≤ 900 ∧ ∀ H', Same H H' → Q (.bl (ds.all (kept vals))) H'
end WS
local macro_rules | `(tactic| walk_at "tr") => `(tactic| first | assumption | exact lst_of (by assumption) | exact tup_of (by assumption) | (refine L2.Same.seq (by assumption) ?_; walk_at "tr") | (refine seqT (by assumption) ?_; walk_at "tr"))
local macro_rules | `(tactic| walk_at "s") => `(tactic| with_reducible first
  | refine s_seq ?_ | refine s_asg ?_ | refine g_name ?_ | refine s_ret ?_ | refine s_retN ?_ | refine s_drop ?_ | refine s_if ?_ | refine s_next ?_ | refine s_brk ?_ | refine s_ct ?_ | refine s_for ?_
  | (apply e_var; with_unfolding_all rfl) | refine e_c ?_ | refine e_op ?_ | refine e_un ?_ | refine a_cons ?_ | refine a_nil ?_ | refine c_b ?_ | refine c_call ?_ | refine t_test ?_ | refine k_bl ?_ | refine t_b ?_ | refine t_tr ?_ | refine k_trB ?_ | refine k_trN ?_ | refine k_trI ?_
  | refine t_and ?_ | refine t_or ?_ | refine t_not ?_ | refine e_andV ?_ | refine e_orV ?_ | refine e_notV ?_ | refine e_if ?_ | refine e_chain ?_ | refine e_tup ?_ | refine e_lst ?_ | refine e_sl ?_ | refine p_no ?_ | refine p_so ?_ | refine k_int ?_
  | refine m_bm ?_ | refine g_sub ?_ | refine m_m1 ?_ | refine m_st ?_ | refine e_lc ?_ | refine t_yes ?_ | refine w_r1 ?_ | refine w_r2 ?_ | refine w_l ?_ | refine w_t ?_ | refine w_s ?_ | refine k_s ?_
  | (apply s_aug; with_unfolding_all rfl) | refine i_add ?_ | refine o_addI ?_ | refine o_I0 ?_ | refine b_int ?_ | refine b_intB ?_ | refine b_abs ?_ | refine u_neg ?_ | refine o_isN ?_ | refine o_ntN ?_ | refine o_inS ?_ | refine o_niS ?_
  | refine g_cons ?_ | refine g_nil ?_ | refine e_joined ?_ | refine j_nil ?_ | refine j_cons ?_ | refine e_fmt ?_
  | refine WD.e_dget ?_ | refine WD.s_dput ?_
  | (refine o_mod ?_ ?_; omega) | (refine o_fdiv ?_ ?_ ?_; omega; omega) | (refine o_pow ?_ ?_ ?_ ?_; omega; omega; omega) | (refine o_mulI2 ?_ ?_ ?_; omega; omega) | (refine o_mulI1 ?_ ?_ ?_; omega; omega)
  | (refine WN.o_fdW ?_ ?_ ?_; omega; omega))
local macro_rules | `(tactic| walk_at "ss") => `(tactic| repeat walk_at "s")
local macro_rules | `(tactic| walk_at "ne") => `(tactic| first | assumption | exact Ne.symm (by assumption) | exact WN.ne_new (by assumption) (by walk_at "hp0") | exact Ne.symm (WN.ne_new (by assumption) (by walk_at "hp0")))
local macro_rules | `(tactic| walk_at "hp0") => `(tactic| first | assumption | (refine WN.sm (by assumption) ?_; walk_at "hp0"))
local macro_rules | `(tactic| walk_at "hp") => `(tactic| first | assumption | (refine WN.sm (by assumption) ?_; walk_at "hp") | (refine WN.cm (by assumption) (by walk_at "ne") ?_; walk_at "hp"))
local macro_rules | `(tactic| walk_at "sq") => `(tactic| first | assumption | exact lst_of (by walk_at "hp") | exact tup_of (by walk_at "hp") | (refine L2.Same.seq (by assumption) ?_; walk_at "sq") | (refine seqT (by assumption) ?_; walk_at "sq"))
local macro_rules | `(tactic| walk_at "sa") => `(tactic| first | assumption | exact L2.Same.refl _ | (refine L2.Same.trans ?_ (by assumption); walk_at "sa"))
local macro_rules | `(tactic| walk_at "ty") => `(tactic| first | exact .base (.int _) | exact .base (.bl _) | exact .base .non | exact .base (.str _) | exact .base (.lst (by walk_at "hp")) | exact .base (.tup (by walk_at "hp")))
local macro_rules | `(tactic| walk_at "x") => `(tactic| with_reducible first
  | walk_at "s"
  | (refine n_obj ?_ (fun _ _ _ _ _ => ?_); exact lz (Nat.le_of_ble_eq_true rfl))
  | (apply o_ixT; walk_at "sq"; with_unfolding_all rfl)
  | (apply o_ixL; walk_at "sq"; with_unfolding_all rfl)
  | (apply g_tup; walk_at "sq"; with_unfolding_all rfl)
  | (apply l_L; walk_at "sq"; intro _ _ _ _ _)
  | (refine k_r1 ?_ ?_ ?_; omega; omega)
  | refine WN.b_mx ?_ | refine WN.b_mn ?_
  | (apply k_l; walk_at "sq") | (apply k_t; walk_at "sq")
  | (apply WS.b_lenT2; walk_at "sq") | (apply WS.b_lenT3; walk_at "sq")
  | (apply WN.b_is2 (b := true); walk_at "ty"; exact L2.kit_ty (by decide +kernel)) | (apply WN.b_is2 (b := false); walk_at "ty"; exact L2.kit_ty (by decide +kernel))
  | refine L2.iteT ?_ | refine L2.iteF ?_
  | (refine WN.iteTT ?_ ?_; first | decide +kernel | exact WN.nNRN _ | exact WN.nNIN _ | exact WN.nNSN _ | exact WN.nNBN _)
  | (refine WN.iteFF ?_ ?_; first | decide +kernel | exact WN.nRN _ | exact WN.nIN _ | exact WN.nSN _ | exact WN.nBN _)
  | (refine o_eqS ?_ ?_; with_unfolding_all rfl) | (refine o_neS ?_ ?_; with_unfolding_all rfl))
local macro_rules | `(tactic| walk_at "xx") => `(tactic| repeat walk_at "x")
local macro_rules | `(tactic| walk_at "fr") => `(tactic| first | assumption | exact WN.free_of (by assumption) (by walk_at "sa"))
local macro_rules | `(tactic| walk_at "tp") => `(tactic| first | exact .nil | exact .int _ | exact .bl _ | exact .str _ | exact .non | (refine .cons ?_ ?_ <;> walk_at "tp") | (refine .tup (by walk_at "hp") ?_; walk_at "tp"))
/-! WC: sequences of either kind, and chains. -/
namespace WC
open PySem PySem.Spec PyProof.Rows L2 Wy WN WQ WS
abbrev tStar := StX.tStar
theorem pa_star {X : Cx} {e : Expr} {es : List Expr} {p : Pos} {te : TE} {t : TA} (he : PE X e te) (hr : PA X es t) (hs : starEach (.Starred e p :: es) X.env = (true, eval e X.env) :: starEach es X.env := by rfl) : PA X (.Starred e p :: es) (tStar X.K te t) := StX.pa_star he hr hs
theorem ixN_of {n : Nat} {k : Int} (h0 : 0 ≤ k) (h1 : k < n) : ixN n k = some k.toNat := by
  obtain ⟨j, rfl⟩ : ∃ j : Nat, k = j := ⟨k.toNat, by omega⟩
  rw [ixN_nat (by omega), Int.toNat_natCast]
theorem erase_perm {α : Type} : ∀ {xs : List α} {i : Nat} {x : α}, xs[i]? = some x → (x :: xs.eraseIdx i).Perm xs
  | [], _, _, h => by cases h
  | y :: xs, 0, x, h => by
    cases h
    exact .refl _
  | y :: xs, i + 1, x, h => (List.Perm.swap y x _).trans ((erase_perm (xs := xs) (i := i) h).cons y)
theorem take_sum1 {ws : List Int} {i : Nat} {w : Int} (h : ws[i]? = some w) : (ws.take (i + 1)).sum = (ws.take i).sum + w := by
  rw [List.take_succ, h, List.sum_append]
  simp
theorem nd_inj {α : Type} {xs : List α} {i j : Nat} {x : α} (nd : xs.Nodup) (h1 : xs[i]? = some x) (h2 : xs[j]? = some x) : i = j := by
  have l1 := (List.getElem?_eq_some_iff.mp h1).1
  exact (List.getElem?_inj l1 nd).mp (h1.trans h2.symm)
theorem tpIns {H : Hp} {v : V} {d : PyData} : ∀ {i : Nat} {us : List V} {ds : List PyData}, TpAll H us ds → Tp H v d → TpAll H (us.take i ++ [v] ++ us.drop i) (ds.take i ++ [d] ++ ds.drop i)
  | 0, us, ds, t, h => .cons h t
  | i + 1, _, _, .nil, h => .cons h .nil
  | i + 1, _, _, .cons a b, h => .cons a (tpIns (i := i) b h)
theorem tpTake {H : Hp} : ∀ {i : Nat} {us : List V} {ds : List PyData}, TpAll H us ds → TpAll H (us.take i) (ds.take i)
  | 0, us, ds, t => .nil
  | i + 1, _, _, .nil => .nil
  | i + 1, _, _, .cons a b => .cons a (tpTake (i := i) b)
theorem tpRev {H : Hp} : ∀ {us : List V} {ds : List PyData}, TpAll H us ds → TpAll H us.reverse ds.reverse
  | _, _, .nil => .nil
  | _, _, .cons a b => by
    rw [List.reverse_cons, List.reverse_cons]
    exact tpSnoc (tpRev b) a
section
variable {X : Cx}
theorem pe_bmK {K : PySem.W.Frag} {o e : Expr} {es : List Expr} {to : TE} {t : TA} {name : Str} {apos cpos : Pos} {T id : String} {r : V → List V → Hp → VK → Prop}
    (pa : PlainAttrs T) (slot : Slot T name id) (hty : typeOf (.builtin id) = pure (.type "method_descriptor")) (hm : MtR X id r) (ho : PE X o to) (ha : PA X (e :: es) t) (hK : X.K = K := by rfl)
    (hbase : attributeBase o name X.env (eval o X.env) = eval o X.env := by rfl)
    (hfew : ((backTo cpos (starEach (e :: es) X.env)).all (fun x => !x.1) && (backToKw cpos (keywordEach [] X.env)).all (fun x => x.1.isSome)
      && decide ((e :: es).length + ([] : List Keyword).length + (if ([] : List Keyword).isEmpty then 0 else 1) < 30)) = true := by rfl)
    (hline : (apos.endLine == cpos.line) = true := by rfl) (hs : starEach (e :: es) X.env = (false, eval e X.env) :: starEach es X.env := by rfl) (hplain : (backTo cpos (starEach es X.env)).any (·.1) = false := by rfl) :
    PE X (.Call (.Attribute o name apos) (e :: es) [] cpos) (tBM K T r to t) := hK ▸ pe_bm pa slot hty hm ho ha hbase hfew hline hs hplain
def rSl3 (K : PySem.W.Frag) : V → Option Int → Option Int → Hp → VK → Prop := fun x lo hi H Q => rSl2 K x lo hi H Q ∨ rSlA K x lo hi H Q
theorem sl_3 : SlR X (rSl3 X.K) := sl_2.or sl_tupA
def rIns : V → List V → Hp → VK → Prop := fun x vs H Q => ∃ (l : Addr) (xs : List V) (i : Int) (y : V), x = .ref l ∧ vs = [.int i, y] ∧ H l = some (.lst xs) ∧ xs.length < sizeLine ∧ 0 ≤ i ∧ i < 2 ^ 63 ∧ Q .non (upd H l (.lst (xs.take i.toNat ++ [y] ++ xs.drop i.toNat)))
theorem mt_insert2 : MtR X "list.insert" rIns := mt_insert
end
section
variable {K : PySem.W.Frag} {σ : L2.St} {H : Hp} {Q : VK} {QT : Bool → Hp → Prop} {te : TE} {tr : TA} {v x y : V} {QA : List V → Hp → Prop} {a : Addr} {xs : List V}
def KSt (K : PySem.W.Frag) (x : V) (t : TA) (σ : L2.St) (H : Hp) (QA : List V → Hp → Prop) : Prop := ∃ p xs, x = V.ref p ∧ (SqT K H p xs ∨ SqL K H p xs) ∧ t σ H fun ys H2 => QA (xs ++ ys) H2
theorem a_star (h : te σ H fun x H1 => KSt K x tr σ H1 QA) : tStar K te tr σ H QA := h
theorem k_st (hs : Sq K H a xs) (h : tr σ H fun ys H2 => QA (xs ++ ys) H2) : KSt K (.ref a) tr σ H QA := ⟨a, xs, rfl, hs.symm, h⟩
theorem k_trQ (hs : Sq K H a xs) (h : QT (!xs.isEmpty) H) : KTr K (.ref a) H QT := hs.elim (fun s => k_trL s h) fun s => k_trT s h
theorem b_lenQ (hs : Sq K H a xs) (h : Q (.int xs.length) H) : rLn K [.ref a] H Q := hs.elim (fun s => b_lenL s h) fun s => b_lenT s h
theorem o_ixQ {j : Int} (hs : Sq K H a xs) (e : atI xs j = some v) (h : Q v H) : rIx K (.ref a) (.int j) H Q := hs.elim (fun s => o_ixL s e h) fun s => o_ixT s e h
theorem ix_intQ {ns : List Int} {i : Int} (hs : Sq K H a (ns.map V.int)) (h0 : 0 ≤ i) (h1 : i < ns.length) (h : ∀ x : Int, ns[i.toNat]? = some x → Q (.int x) H) : rIx K (.ref a) (.int i) H Q := by
  have e := List.getElem?_eq_getElem (l := ns) (i := i.toNat) (by omega)
  exact o_ixQ hs (atI_of (j := i.toNat) (by omega) (v := .int ns[i.toNat]) (by rw [List.getElem?_map, e]; rfl)) (h _ e)
theorem m_ins {i : Int} (e : H a = some (.lst xs)) (hz : xs.length < sizeLine) (h0 : 0 ≤ i) (h1 : i ≤ xs.length) (h : ∀ H2, Chg a H H2 → H2 a = some (.lst (xs.take i.toNat ++ [y] ++ xs.drop i.toNat)) → Q .non H2) : rIns (.ref a) [.int i, y] H Q :=
  ⟨a, xs, i, y, rfl, rfl, e, hz, h0, by have : sizeLine = 16777216 := sizeLine_eq; omega, h _ chg_upd upd_same⟩
theorem m_popI {i : Int} (e : H a = some (.lst xs)) (hz : xs.length < sizeLine) (h0 : 0 ≤ i) (h1 : i < xs.length) (g : xs[i.toNat]? = some y) (h : ∀ H2, Chg a H H2 → H2 a = some (.lst (xs.eraseIdx i.toNat)) → Q y H2) : rPopAt (.ref a) [.int i] H Q := by
  have hs : sizeLine = 16777216 := sizeLine_eq
  refine ⟨a, xs, i, i.toNat, y, rfl, rfl, e, by omega, by omega, ?_, g, h _ chg_upd upd_same⟩
  unfold seqIndex?
  have : ¬ i < 0 := by omega
  simp [this, h0, h1]
/-- v[1:] of either kind, walked -/
theorem cut1 (xs : List V) : cutV xs (some 1) none = xs.drop 1 := by
  unfold cutV
  rw [show (1 : Int) = ((1 : Nat) : Int) from rfl, HT.sIx_nat]
  simp [HT.sIx]
  cases xs with
  | nil => rfl
  | cons x r => simp
theorem w_cut1 {b : Addr} {n : V} {r : List V} {i : Nat} {R : It → Hp → Prop} (hs : Sq K H b (n :: r)) (e : σ[i]? = some (some (.ref b))) (h : ∀ J p H2, Same H H2 → SqIt K p r J H2 → R J H2) :
    iSeq K (tSl (rSl3 K) (tVar i) (tPart (tC (.int 1))) tNoPart) σ H R := by
  have e1 : cutV (n :: r) (some 1) none = r := by rw [cut1]; rfl
  rcases hs with hs | hs
  · refine .inl (w_l (e_sl (e_var e (p_so (e_c (k_int (p_no ?_)))))))
    refine .inl (l_L hs fun p H2 np s2 e2 => ?_)
    rw [e1] at e2
    exact k_l (lst_of e2) (h _ p _ s2 (.inl ⟨rfl, lst_of e2⟩))
  · refine .inr (w_t (e_sl (e_var e (p_so (e_c (k_int (p_no ?_)))))))
    refine .inr ⟨b, n :: r, rfl, hs, fun c => ?_, fun _ => new_same (Q := fun x H1 => Wy.KT K x H1 R) fun p H2 np s2 e2 => ?_⟩
    · have := c.1
      rw [show (1 : Int) = ((1 : Nat) : Int) from rfl, HT.sIx_nat, List.length_cons] at this
      omega
    · rw [e1] at e2
      exact k_t (tup_of e2) (h _ p _ s2 (.inr ⟨rfl, tup_of e2⟩))
end
/-! ### chains -/
def dsAt (ds : List Df) (n : Int) : Df := ds.getD n.toNat (0, 0, 0)
def inB (m : Nat) (n : Int) : Bool := decide (0 ≤ n) && decide (n < (m : Int))
def runC : Df → List Df → Option Df
  | t, [] => some t
  | t, d :: r => if d.1 = t.2.1 then runC (t.1, d.2.1, t.2.2 + d.2.2) r else none
def csum (ds : List Df) : List Int → Option Df
  | [] => none
  | n :: r => if (n :: r).all (inB ds.length) = true then runC (dsAt ds n) (r.map (dsAt ds)) else none
def ringB (ds : List Df) (ns : List Int) : Bool := match csum ds ns with
  | none => false
  | some t => decide (t.1 = t.2.1) && decide (t.2.2 < 0)
def floorV (ds : List Df) (ns : List Int) (k : Int) : Option Int := match csum ds ns with
  | none => none
  | some t => if t.1 = 0 ∧ t.2.1 = k then some (-t.2.2) else none
theorem csum_cons {ds : List Df} {n : Int} {r : List Int} : csum ds (n :: r) = if (n :: r).all (inB ds.length) = true then runC (dsAt ds n) (r.map (dsAt ds)) else none := rfl
theorem ringB_none {ds : List Df} {ns : List Int} (e : csum ds ns = none) : ringB ds ns = false := by
  unfold ringB
  rw [e]
theorem ringB_some {ds : List Df} {ns : List Int} {t : Df} (e : csum ds ns = some t) : ringB ds ns = (decide (t.1 = t.2.1) && decide (t.2.2 < 0)) := by
  unfold ringB
  rw [e]
theorem floorV_none {ds : List Df} {ns : List Int} {k : Int} (e : csum ds ns = none) : floorV ds ns k = none := by
  unfold floorV
  rw [e]
theorem floorV_some {ds : List Df} {ns : List Int} {t : Df} {k : Int} (e : csum ds ns = some t) : floorV ds ns k = if t.1 = 0 ∧ t.2.1 = k then some (-t.2.2) else none := by
  unfold floorV
  rw [e]
inductive Path : List Df → Int → Int → Int → Prop
  | nil {u : Int} : Path [] u u 0
  | cons {r : List Df} {u v z c s : Int} : Path r v z s → Path ((u, v, c) :: r) u z (c + s)
theorem Path.app {b : List Df} {z t : Int} : ∀ {a : List Df} {u v s : Int}, Path a u v s → Path b v z t → Path (a ++ b) u z (s + t)
  | _, _, _, _, .nil, h => by
    rw [Int.zero_add]
    exact h
  | _, _, _, _, .cons p, h => by
    rw [Int.add_assoc]
    exact .cons (p.app h)
theorem Path.split {b : List Df} {z : Int} : ∀ {a : List Df} {u s : Int}, Path (a ++ b) u z s → ∃ m s1 s2, Path a u m s1 ∧ Path b m z s2 ∧ s = s1 + s2
  | [], u, s, h => ⟨u, 0, s, .nil, h, by omega⟩
  | d :: a, u, s, h => by
    cases h with
    | cons p =>
      obtain ⟨m, s1, s2, h1, h2, e⟩ := p.split
      exact ⟨m, _, s2, .cons h1, h2, by omega⟩
theorem Path.one {u v c : Int} : Path [(u, v, c)] u v c := by
  have := Path.cons (u := u) (c := c) (Path.nil (u := v))
  rwa [Int.add_zero] at this
theorem run_path {f : Int} : ∀ {es : List Df} {l z s t : Int}, Path es l z s → runC (f, l, t) es = some (f, z, t + s)
  | _, _, _, _, t, .nil => by rw [Int.add_zero]; rfl
  | _, _, _, _, t, .cons p => by
    unfold runC
    rw [if_pos rfl, run_path p]
    simp only [Option.some.injEq, Prod.mk.injEq, true_and]
    omega
theorem csum_path {ds : List Df} {ns : List Int} {u z s : Int} (h : ∀ n ∈ ns, 0 ≤ n ∧ n < ds.length) (p : Path (ns.map (dsAt ds)) u z s) (ne : ns ≠ []) : csum ds ns = some (u, z, s) := by
  cases ns with
  | nil => exact absurd rfl ne
  | cons n r =>
    show (if (n :: r).all (inB ds.length) = true then runC (dsAt ds n) (r.map (dsAt ds)) else none) = _
    rw [if_pos (List.all_eq_true.mpr fun x hx => by
      obtain ⟨h1, h2⟩ := h x hx
      unfold inB
      rw [decide_eq_true h1, decide_eq_true h2]
      rfl)]
    rw [List.map_cons] at p
    generalize dsAt ds n = d at p
    obtain ⟨a, b, c⟩ := d
    cases p with
    | cons p => exact run_path p
theorem kept_path {vs : List Int} : ∀ {es : List Df} {u z s : Int}, Path es u z s → (∀ d ∈ es, kept vs d = true) → lv vs u - lv vs z ≤ s
  | _, _, _, _, .nil, _ => by omega
  | _, u, z, _, .cons (v := v) (c := c) p, h => by
    have h1 := kept_path p fun d hd => h d (List.mem_cons_of_mem _ hd)
    have h2 := of_decide_eq_true (h (u, v, c) List.mem_cons_self)
    simp only at h2
    omega
theorem path_of (nd ws : Nat → Int) : ∀ n : Nat, Path ((List.range n).map fun k => (nd k, nd (k + 1), ws k)) (nd 0) (nd n) (((List.range n).map ws).sum)
  | 0 => .nil
  | n + 1 => by
    rw [List.range_succ, List.map_append, List.map_append, List.sum_append]
    refine (path_of nd ws n).app ?_
    simp only [List.map_cons, List.map_nil, List.sum_cons, List.sum_nil, Int.add_zero]
    exact Path.one
theorem path_rot {es : List Df} {u s : Int} (k : Nat) (p : Path es u u s) : ∃ m, Path (es.drop k ++ es.take k) m m s := by
  rw [← List.take_append_drop k es] at p
  obtain ⟨m, s1, s2, h1, h2, e⟩ := p.split
  refine ⟨m, ?_⟩
  rw [e, Int.add_comm]
  exact h2.app h1
theorem take_sum {ws : List Int} {n : Nat} (h : n ≤ ws.length) : (List.range n).map (fun k => ws.getD k 0) = ws.take n := by
  refine List.ext_getElem? fun j => ?_
  rw [List.getElem?_map, List.getElem?_take]
  by_cases hj : j < n
  · rw [List.getElem?_range hj, if_pos hj, List.getElem?_eq_getElem (by omega)]
    show some (ws.getD j 0) = _
    rw [List.getD_eq_getElem?_getD, List.getElem?_eq_getElem (by omega)]
    rfl
  · rw [List.getElem?_eq_none (by rw [List.length_range]; omega), if_neg hj]
    rfl
section
variable {K : PySem.W.Frag}
/-- the sum of a chain -/
def spChain (K : PySem.W.Frag) : Sp := fun vs H Q _ => ∃ (a b : Addr) (us : List V) (ds : List Df) (ns : List Int), vs = [.ref a, .ref b] ∧ Sq K H a us ∧ TpAll H us (ds.map dfD) ∧ Sq K H b (ns.map V.int) ∧ ds.length ≤ 1000 ∧ ns.length ≤ 1000 ∧
  (csum ds ns = none → ∀ H', Same H H' → Q .non H') ∧ ∀ t : Df, csum ds ns = some t → ∀ p H', Same H H' → H p = none → H' p = some (.tup [.int t.1, .int t.2.1, .int t.2.2]) → Q (.ref p) H'
def spRing (K : PySem.W.Frag) : Sp := fun vs H Q _ => ∃ (a b : Addr) (us : List V) (ds : List Df) (ns : List Int), vs = [.ref a, .ref b] ∧ Sq K H a us ∧ TpAll H us (ds.map dfD) ∧ Sq K H b (ns.map V.int) ∧ ds.length ≤ 1000 ∧ ns.length ≤ 1000 ∧
  ∀ H', Same H H' → Q (.bl (ringB ds ns)) H'
def oI : Option Int → V
  | none => .non
  | some i => .int i
def spFloor (K : PySem.W.Frag) : Sp := fun vs H Q _ => ∃ (a b : Addr) (us : List V) (ds : List Df) (ns : List Int) (k : Int), vs = [.ref a, .ref b, .int k] ∧ Sq K H a us ∧ TpAll H us (ds.map dfD) ∧ Sq K H b (ns.map V.int) ∧ ds.length ≤ 1000 ∧ ns.length ≤ 1000 ∧
  ∀ H', Same H H' → Q (oI (floorV ds ns k)) H'
def spKeeps (K : PySem.W.Frag) : Sp := fun vs H Q _ => ∃ (a b : Addr) (us : List V) (ds : List Df) (vals : List Int), vs = [.ref a, .ref b] ∧ Sq K H a us ∧ TpAll H us (ds.map dfD) ∧ Sq K H b (vals.map V.int) ∧ (∀ d ∈ ds, InR vals.length d) ∧
  ds.length ≤ 1000 ∧ vals.length ≤ 900 ∧ ∀ H', Same H H' → Q (.bl (ds.all (kept vals))) H'
def spTells : Sp := fun vs H Q _ => ∃ x y : Bool, vs = [.bl x, .bl y] ∧ Q (.bl (decide (x = y))) H
def spWt : Sp := fun vs H Q _ => ∃ d : Int, vs = [.int d] ∧ ∀ r : Int, Q (.int r) H
def spDiffs (K : PySem.W.Frag) : Sp := fun vs H Q _ => ∃ (a : Addr) (zs : List Int) (pl : Int) (n m : Nat), vs = [.ref a, .int pl, .int n, .int m] ∧ SqL K H a (zs.map V.int) ∧ n ≤ 100 ∧ m ≤ 1000 ∧
  ∀ p us H' ds, Same H H' → H p = none → H' p = some (.lst us) → TpAll H' us ((ds : List Df).map dfD) → ds.length = n → (∀ d ∈ ds, InR m d) → Q (.ref p) H'
end
end WC
/-! WE: comprehensions of the laws. -/
namespace WE
open PySem PySem.Spec PyProof.Rows L2 Wy WN WQ WS WC
section
variable {K : PySem.W.Frag} {σ : L2.St} {H : Hp} {Q : VK} {te : TE} {vs : List Nat} {i : Nat} {a : Addr}
/-- one value again and again -/
theorem c_const {lo : Int} {n : Nat} {v : V} (hte : ∀ σ H (N : VK), N v H → te σ H N) (hz : n ≤ 100000) (hw : ∀ x, wipe ((wipe σ vs).set i (some x)) vs = wipe σ vs) (post : ∀ D H2, H D = none → Same H H2 → H2 D = some (.lst (List.replicate n v)) → Q (.ref D) H2) :
    LoopC (Itr lo n) (gName i) tYes te vs σ H Q := by
  refine c_accR (One fun _ y _ => y = v) (fun _ _ _ _ _ h => h) (fun i acc H hi h => small1000' (by rw [h.1]; omega)) One.zero (fun j H1 acc N M hj s1 o hN hM => ?_) (fun D H1 ys nD s1 e1 o => ?_)
  · refine g_name ⟨hw _, t_yes ?_⟩
    exact iteTT rfl (hte _ _ _ (hN _ _ (Same.refl _) (o.snoc (fun _ _ h => h) rfl)))
  · rw [o.const] at e1
    exact post D H1 nD s1 e1
theorem c_constI {lo : Int} {n : Nat} {c : Int} (hte : ∀ σ H (N : VK), N (.int c) H → te σ H N) (hz : n ≤ 100000) (hw : ∀ x, wipe ((wipe σ vs).set i (some x)) vs = wipe σ vs) (post : ∀ D H2, H D = none → Same H H2 → H2 D = some (.lst ((List.replicate n c).map V.int)) → Q (.ref D) H2) :
    LoopC (Itr lo n) (gName i) tYes te vs σ H Q := c_const hte hz hw fun D H2 nD s e => post D H2 nD s (by rw [List.map_replicate]; exact e)
/-- an int from each int -/
theorem c_ints {xs : List Int} (hs : SqL K H a (xs.map V.int)) (hte : ∀ (x : Int) H (N : VK), (∀ r : Int, N (.int r) H) → te ((wipe σ vs).set i (some (.int x))) H N) (hz : xs.length ≤ 100000) (hw : ∀ x, wipe ((wipe σ vs).set i (some x)) vs = wipe σ vs)
    (post : ∀ D H2 (rs : List Int), H D = none → Same H H2 → rs.length = xs.length → H2 D = some (.lst (rs.map V.int)) → Q (.ref D) H2) : LoopC (Itl K a) (gName i) tYes te vs σ H Q := by
  refine c_acc (xs := xs.map V.int) (.inl ⟨rfl, hs⟩) (One fun _ y _ => ∃ r : Int, y = .int r) (fun _ _ _ _ _ h => h) (fun i acc H hi h => small1000' (by rw [h.1]; rw [List.length_map] at hi; omega)) One.zero (fun j x H1 acc N M hx s1 o hN hM => ?_) (fun D H1 ys nD s1 e1 o => ?_)
  · rw [List.getElem?_map] at hx
    obtain ⟨d, gd, rfl⟩ := Option.map_eq_some_iff.mp hx
    refine g_name ⟨hw _, t_yes ?_⟩
    exact iteTT rfl (hte _ _ _ fun r => hN _ _ (Same.refl _) (o.snoc (fun _ _ h => h) ⟨r, rfl⟩))
  · rw [List.length_map] at o
    obtain ⟨rs, rfl, lr⟩ := o.ints fun _ _ _ h => h
    exact post D H1 rs nD s1 lr e1
/-- ints by place -/
theorem c_rng {lo : Int} {n : Nat} (F : Nat → Int) (hte : ∀ (j : Nat) H (N : VK), j < n → N (.int (F j)) H → te ((wipe σ vs).set i (some (.int (lo + j)))) H N) (hz : n ≤ 100000) (hw : ∀ x, wipe ((wipe σ vs).set i (some x)) vs = wipe σ vs)
    (post : ∀ D H2, H D = none → Same H H2 → H2 D = some (.lst (((List.range n).map F).map V.int)) → Q (.ref D) H2) : LoopC (Itr lo n) (gName i) tYes te vs σ H Q := by
  refine c_accR (One fun j y _ => y = .int (F j)) (fun _ _ _ _ _ h => h) (fun i acc H hi h => small1000' (by rw [h.1]; omega)) One.zero (fun j H1 acc N M hj s1 o hN hM => ?_) (fun D H1 ys nD s1 e1 o => ?_)
  · refine g_name ⟨hw _, t_yes ?_⟩
    exact iteTT rfl (hte _ _ _ hj (hN _ _ (Same.refl _) (o.snoc (fun _ _ h => h) rfl)))
  · have ey := o.eqR fun j y _ h => h
    rw [ey] at e1
    exact post D H1 nD s1 (by rw [List.map_map]; exact e1)
/-- one datum by place -/
theorem c_tps {lo : Int} {n : Nat} (F : Nat → PyData) (hte : ∀ (j : Nat) H1 (N : VK), j < n → Same H H1 → (∀ y H3, Same H1 H3 → Tp H3 y (F j) → N y H3) → te ((wipe σ vs).set i (some (.int (lo + j)))) H1 N) (hz : n ≤ 100000) (hw : ∀ x, wipe ((wipe σ vs).set i (some x)) vs = wipe σ vs)
    (post : ∀ D H2 us, H D = none → Same H H2 → H2 D = some (.lst us) → TpAll H2 us ((List.range n).map F) → Q (.ref D) H2) : LoopC (Itr lo n) (gName i) tYes te vs σ H Q := by
  refine c_accR (One fun j y H => Tp H y (F j)) (fun i acc H H' k h => ⟨h.1, fun j y e => (h.2 j y e).tk k⟩) (fun i acc H hi h => small1000' (by rw [h.1]; omega)) One.zero (fun j H1 acc N M hj s1 o hN hM => ?_) (fun D H1 ys nD s1 e1 o => ?_)
  · refine g_name ⟨hw _, t_yes ?_⟩
    exact iteTT rfl (hte _ _ _ hj s1 fun y H3 s3 t => hN _ _ s3 (o.snoc (fun _ _ h => h.tk s3.tk) t))
  · exact post D H1 ys nD s1 e1 (tpOne o fun j y _ h => h)
theorem c_rngV {lo : Int} {n : Nat} (F : Nat → V) (hte : ∀ (j : Nat) H (N : VK), j < n → (∀ H3, Same H H3 → N (F j) H3) → te ((wipe σ vs).set i (some (.int (lo + j)))) H N) (hz : n ≤ 100000) (hw : ∀ x, wipe ((wipe σ vs).set i (some x)) vs = wipe σ vs)
    (post : ∀ D H2, H D = none → Same H H2 → H2 D = some (.lst ((List.range n).map F)) → Q (.ref D) H2) : LoopC (Itr lo n) (gName i) tYes te vs σ H Q := by
  refine c_accR (One fun j y _ => y = F j) (fun _ _ _ _ _ h => h) (fun i acc H hi h => small1000' (by rw [h.1]; omega)) One.zero (fun j H1 acc N M hj s1 o hN hM => ?_) (fun D H1 ys nD s1 e1 o => ?_)
  · refine g_name ⟨hw _, t_yes ?_⟩
    exact iteTT rfl (hte _ _ _ hj (fun H3 s3 => hN _ _ s3 (o.snoc (fun _ _ h => h) rfl)))
  · have ey := o.eqR fun j y _ h => h
    rw [ey] at e1
    exact post D H1 nD s1 e1
def KRev (K : PySem.W.Frag) (x : V) (H : Hp) (Q : VK) : Prop := ∃ a xs, x = V.ref a ∧ SqL K H a xs ∧ ∀ p, H p = none → Q (.ref p) (upd H p (.lst xs.reverse))
theorem e_revL (h : te σ H fun x H1 => KRev K x H1 Q) : tRevL K te σ H Q := h
theorem k_rev {xs : List V} (e : H a = some (.lst xs)) (h : ∀ p H2, H p = none → Same H H2 → H2 p = some (.lst xs.reverse) → Q (.ref p) H2) : KRev K (.ref a) H Q := ⟨a, xs, rfl, lst_of e, new_same h⟩
theorem ix_pick {c : Bool} {u v : V} (e : H a = some (.lst [u, v])) (h : Q (if c then v else u) H) : rIx K (.ref a) (.int (if c = true then 1 else 0)) H Q := by
  cases c with
  | true => exact o_ixL (lst_of e) (v := v) rfl h
  | false => exact o_ixL (lst_of e) (v := u) rfl h
theorem o_isB {a b : Bool} (h : Q (.bl (decide (a = b))) H) : rIsB (.bl a) (.bl b) H Q := ⟨a, b, rfl, rfl, h⟩
theorem o_ntB {a b : Bool} (h : Q (.bl (!decide (a = b))) H) : rNotB (.bl a) (.bl b) H Q := ⟨a, b, rfl, rfl, h⟩
theorem cutTo (xs : List V) {i : Int} (h : 0 ≤ i) : cutV xs none (some i) = xs.take i.toNat := by
  obtain ⟨k, rfl⟩ : ∃ k : Nat, i = k := ⟨i.toNat, by omega⟩
  unfold cutV
  rw [HT.sIx_nat, HT.sIx_none, List.drop_zero, Nat.sub_zero, Int.toNat_natCast]
  by_cases hk : k ≤ xs.length
  · rw [Nat.min_eq_left hk]
  · rw [Nat.min_eq_right (by omega), List.take_of_length_le (Nat.le_refl _), List.take_of_length_le (by omega)]
theorem cutFrom (xs : List V) {i : Int} (h : 0 ≤ i) : cutV xs (some i) none = xs.drop i.toNat := by
  obtain ⟨k, rfl⟩ : ∃ k : Nat, i = k := ⟨i.toNat, by omega⟩
  unfold cutV
  rw [HT.sIx_nat, HT.sIx_none, Int.toNat_natCast]
  by_cases hk : k ≤ xs.length
  · rw [Nat.min_eq_left hk, List.take_of_length_le (by rw [List.length_drop]; omega)]
  · rw [Nat.min_eq_right (by omega), List.drop_of_length_le (Nat.le_refl _), List.drop_of_length_le (by omega)]
    simp
theorem ne_ints {H : Hp} {a b v : Addr} {rs : List V} {xs : List Int} (h1 : H a = some (.lst (.ref v :: rs))) (h2 : H b = some (.lst (xs.map V.int))) : b ≠ a := by
  intro e
  subst e
  rw [h1] at h2
  cases xs <;> cases h2
end
end WE
/-! WO: instances of own classes. -/
namespace WO
open PySem PySem.Spec PyProof.Rows L2 Wy WN WQ
/-- a method of a class of the top -/
structure MetOk (K : PySem.W.Frag) (C m qual : Str) (st : Stmt) : Prop where
  ex : ∃ f fd, FunD K m qual (defArgs st) (defBody st) (defScope st) [] [] f fd ∧ Meth K (He.ga K C) m f
structure MakOk (K : PySem.W.Frag) (mg : Str → Option Value) (C qual : Str) (st : Stmt) : Prop where
  ex : ∃ f fd, FunD K "__init__" qual (defArgs st) (defBody st) (defScope st) [] [] f fd ∧ Mk K (He.ga K C) f ∧ mg C = some (.ref (He.ga K C))
section
variable {P : Program} {w : World} {K : PySem.W.Frag} {mg : Str → Option Value} {base : Heap} {C m qual : Str} {st : Stmt} {N ps : List Str} {k : Nat} {sp : Sp}
theorem met_of (F : MetOk K C m qual st) (cl : Cls K (He.ga K C)) (S : FnScope N ps (defScope st)) (hb : ∀ f fd, FunD K m qual (defArgs st) (defBody st) (defScope st) [] [] f fd → Binds K fd ps []) (len : ∀ vs H Q E, sp vs H Q E → vs.length = ps.length)
    (body : ∀ (f : Addr) (cdv : Value) (A : Around) (outer : List Env) (s : Shared) (H : Hp) (vs : List V) (Q : VK) (E : XK), Room k (A.deeper (envOfC qual (defScope st) s.heap.objs.size f cdv)) → sp vs H Q E →
      ∃ t, PSs (cxOf CX0 P w K mg base N qual (defScope st) f cdv A outer s H E).nox (defBody st) t ∧ t { nx := fun _ H' => Q .non H', rt := Q } (start N vs) H) : C8.Met P w K mg base (k + 1) (He.ga K C) m sp [] := by
  obtain ⟨f, fd, F, hm⟩ := F.ex
  refine ⟨f, fd, ps, [], cl, hm, F.ok S len fun cdv A outer s H vs Q E hr h => ?_, hb f fd F, .nil⟩
  obtain ⟨t, h1, h2⟩ := body f cdv A outer s H vs Q E hr h
  exact ⟨t, PSs.nox h1, h2⟩
theorem mak_of (F : MakOk K mg C qual st) (S : FnScope N ps (defScope st)) (hb : ∀ f fd, FunD K "__init__" qual (defArgs st) (defBody st) (defScope st) [] [] f fd → Binds K fd ps []) (len : ∀ vs H Q E, sp vs H Q E → vs.length = ps.length)
    (body : ∀ (f : Addr) (cdv : Value) (A : Around) (outer : List Env) (s : Shared) (H : Hp) (vs : List V) (Q : VK) (E : XK), Room k (A.deeper (envOfC qual (defScope st) s.heap.objs.size f cdv)) → sp vs H Q E →
      ∃ t, PSs (cxOf CX0 P w K mg base N qual (defScope st) f cdv A outer s H E).nox (defBody st) t ∧ t { nx := fun _ H' => Q .non H', rt := Q } (start N vs) H) : C8.Mak P w K mg base (k + 1) C (He.ga K C) sp [] := by
  obtain ⟨f, fd, F, hm, hg⟩ := F.ex
  refine ⟨f, fd, ps, [], hm, F.ok S len fun cdv A outer s H vs Q E hr h => ?_, hg, hb f fd F, .nil⟩
  obtain ⟨t, h1, h2⟩ := body f cdv A outer s H vs Q E hr h
  exact ⟨t, PSs.nox h1, h2⟩
end
section
variable {X : Cx}
theorem pe_fldK {K : PySem.W.Frag} {e : Expr} {f : Str} {pos : Pos} {ta : TE} (he : PE X e ta) (hK : X.K = K := by rfl) (hb : attributeBase e f X.env (eval e X.env) = eval e X.env := by rfl) : PE X (.Attribute e f pos) (tFld K ta f) := hK ▸ pe_fld he hb
theorem ps_fldK {K : PySem.W.Frag} {o value : Expr} {f : Str} {pos pos' : Pos} {ta tv : TE} (ha : PE X o ta) (hv : PE X value tv) (hK : X.K = K := by rfl) (hs : swapsWith value (some (.Attribute o f pos')) pos.line X.env = pure false := by rfl) :
    PS X (.Assign [.Attribute o f pos'] value pos) (sFld K ta tv f) := hK ▸ ps_fld ha hv hs
theorem ps_fldaugK {K : PySem.W.Frag} {o value : Expr} {f : Str} {pos pos' : Pos} {ta tv : TE} {op : Operator} {rd : V → V → Hp → VK → Prop} (ha : PE X o ta) (hv : PE X value tv) (hop : InOp X op rd) (hK : X.K = K := by rfl) :
    PS X (.AugAssign (.Attribute o f pos') op value pos) (sFldAug K ta tv rd f) := hK ▸ ps_fldaug ha hv hop
end
section
variable {K : PySem.W.Frag} {σ : L2.St} {H : Hp} {Q : VK} {D : Ends} {te ta tv : TE} {tl : TA} {v x y : V} {a C dx : Addr} {fs : List (Str × V)} {f m : Str} {sp : Sp} {dvs : List V} {E : XK}
def KFld (K : PySem.W.Frag) (f : Str) (x : V) (H : Hp) (Q : VK) : Prop := ∃ a C dx fs v, x = V.ref a ∧ H a = some (.ins C dx fs) ∧ Cls K C ∧ NoAttr K C f ∧ fs.lookup f = some v ∧ Q v H
theorem e_fld (h : te σ H fun x H1 => KFld K f x H1 Q) : tFld K te f σ H Q := h
theorem k_fld (e : H a = some (.ins C dx fs)) (c : Cls K C) (n : NoAttr K C f) (l : fs.lookup f = some v) (h : Q v H) : KFld K f (.ref a) H Q := ⟨a, C, dx, fs, v, rfl, e, c, n, l, h⟩
def KFldS (K : PySem.W.Frag) (f : Str) (y : V) (D : Ends) (σ : L2.St) (x : V) (H : Hp) : Prop := ∃ a C dx fs, x = V.ref a ∧ H a = some (.ins C dx fs) ∧ Cls K C ∧ NoAttr K C f ∧ fs.length < 1000 ∧ D.nx σ (upd H a (.ins C dx (putF f y fs)))
theorem s_fld (h : tv σ H fun y H1 => ta σ H1 fun x H2 => KFldS K f y D σ x H2) : sFld K ta tv f D σ H := h
theorem k_fldS (e : H a = some (.ins C dx fs)) (c : Cls K C) (n : NoAttr K C f) (l : fs.length < 1000) (h : ∀ H2, Chg a H H2 → H2 a = some (.ins C dx (putF f y fs)) → D.nx σ H2) : KFldS K f y D σ (.ref a) H := ⟨a, C, dx, fs, rfl, e, c, n, l, h _ chg_upd upd_same⟩
theorem s_fldaug {i : Nat} {j c : Int} (ev : σ[i]? = some (some (.ref a))) (e : H a = some (.ins C dx fs)) (cl : Cls K C) (n : NoAttr K C f) (l : fs.lookup f = some (.int j)) (sm : fs.length < 1000) (h : ∀ H2, Chg a H H2 → H2 a = some (.ins C dx (putF f (.int (j + c)) fs)) → D.nx σ H2) :
    sFldAug K (tVar i) (tC (.int c)) rAdd f D σ H := ⟨.ref a, ev, a, C, dx, fs, .int j, rfl, e, cl, n, l, j, c, rfl, rfl, dx, fs, e, sm, h _ chg_upd upd_same⟩
theorem l_tup {xs : List V} {lo hi : Option Int} (e : H a = some (.tup xs)) (nw : ¬ (HT.sIx xs.length 0 lo = 0 ∧ HT.sIx xs.length xs.length hi = xs.length)) (h : ∀ p H2, H p = none → Same H H2 → H2 p = some (.tup (cutV xs lo hi)) → Q (.ref p) H2) : rSlA K (.ref a) lo hi H Q :=
  ⟨a, xs, rfl, tup_of e, fun z => absurd z nw, fun _ => new_same h⟩
def rBool : List V → Hp → VK → Prop := fun xs H Q => (∃ i, xs = [.int i] ∧ Q (.bl (i != 0)) H) ∨ ∃ k, xs = [.bl k] ∧ Q (.bl k) H
theorem call_bool2 {X : Cx} : CallR X (.type "bool") rBool := call_bool1
theorem b_boolB {b : Bool} (h : Q (.bl b) H) : rBool [.bl b] H Q := .inr ⟨b, rfl, h⟩
theorem o_tup0 {x : V} {xs : List V} (e : H a = some (.tup (x :: xs))) (h : Q x H) : rIx K (.ref a) (.int 0) H Q := o_ixT (tup_of e) (atI_nat (j := 0) rfl) h
theorem o_tup1 {x y : V} {xs : List V} (e : H a = some (.tup (x :: y :: xs))) (h : Q y H) : rIx K (.ref a) (.int 1) H Q := o_ixT (tup_of e) (atI_nat (j := 1) rfl) h
def KMeth (C : Addr) (m : Str) (sp : Sp) (dvs : List V) (E : XK) (t : TA) (σ : L2.St) (x : V) (H : Hp) (Q : VK) : Prop := ∃ a dx fs, x = V.ref a ∧ H a = some (.ins C dx fs) ∧ fs.lookup m = none ∧ t σ H fun vs H2 => sp (x :: (vs ++ dvs)) H2 Q E
theorem e_meth (h : te σ H fun x H1 => KMeth C m sp dvs E tl σ x H1 Q) : tMeth C m sp dvs E te tl σ H Q := h
theorem k_meth (e : H a = some (.ins C dx fs)) (l : fs.lookup m = none) (h : tl σ H fun vs H2 => sp (.ref a :: (vs ++ dvs)) H2 Q E) : KMeth C m sp dvs E tl σ (.ref a) H Q := ⟨a, dx, fs, rfl, e, l, h⟩
def KMake (C : Addr) (sp : Sp) (dvs : List V) (E : XK) (vs : List V) (H1 : Hp) (Q : VK) : Prop := ∀ x dx, H1 x = none → H1 dx = none → dx ≠ x → sp (.ref x :: (vs ++ dvs)) (upd (upd H1 dx (.own x)) x (.ins C dx [])) (fun v H2 => v = .non ∧ Q (.ref x) H2) E
theorem e_make (h : tl σ H fun vs H1 => KMake C sp dvs E vs H1 Q) : tMake C sp dvs E tl σ H Q := h
theorem k_make {vs : List V} (h : ∀ x dx H2, H x = none → H dx = none → dx ≠ x → Same H H2 → H2 x = some (.ins C dx []) → H2 dx = some (.own x) → sp (.ref x :: (vs ++ dvs)) H2 (fun v H3 => v = .non ∧ Q (.ref x) H3) E) : KMake C sp dvs E vs H Q := fun x dx nx nd ne =>
  h x dx _ nx nd ne (fun b o e => by rw [upd_ne (ne_of_none e nx), upd_ne (ne_of_none e nd)]; exact e) upd_same (by rw [upd_ne ne]; exact upd_same)
end
section
variable {K : PySem.W.Frag} {H : Hp} {Q : VK} {a b : Addr} {xs ys : List V}
theorem o_catT (ha : H a = some (.tup xs)) (hb : H b = some (.tup ys)) (hz : xs.length + ys.length ≤ sizeLine) (h : ∀ p H2, Same H H2 → H2 p = some (.tup (xs ++ ys)) → Q (.ref p) H2) : rCatA K (.ref a) (.ref b) H Q := by
  refine ⟨a, b, xs, ys, rfl, rfl, tup_of ha, tup_of hb, hz, fun e => h _ _ (Same.refl _) ?_, fun _ e => h _ _ (Same.refl _) ?_, fun _ _ => new_same fun p H2 _ s e => h _ _ s e⟩
  · rw [e, List.nil_append]
    exact hb
  · rw [e, List.append_nil]
    exact ha
end
/-! ### walks of any kind -/
section
variable {K : PySem.W.Frag} {σ : L2.St} {H : Hp} {Q : VK} {D : Ends} {t : TS} {te : TE} {tt : TT} {g : TG} {vs : List Nat} {J : It} {n : Nat} {G : Hp → Prop} {Y : Nat → Hp → V → Hp → Prop} {tl : TA}
theorem f_it (w : Walk J n G Y) (Pv : Nat → L2.St → Hp → Prop) (h0 : Pv 0 σ H) (hG : ∀ i σ H, i ≤ n → Pv i σ H → G H)
    (hs : ∀ i x σ H H', i < n → Pv i σ H → Y i H x H' → g x σ H' fun σ2 H2 => t ⟨Pv (i + 1), D.rt, D.nx, Pv (i + 1)⟩ σ2 H2) (hd : ∀ σ H, Pv n σ H → D.nx σ H) : LoopF J g t D σ H := for_it w Pv h0 hG hs hd
/-- a comprehension: what is taken so far, kept while only the new list changes -/
theorem c_it (w : Walk J n G Y) (R : Addr → Nat → List V → Hp → Prop) (hG : ∀ H', Same H H' → G H') (hY : ∀ i H1 x H2, Y i H1 x H2 → Same H1 H2) (small : n < sizeLine) (len : ∀ D i acc H1, R D i acc H1 → acc.length ≤ i)
    (mono : ∀ D i acc H1 H2, Chg D H1 H2 → (∃ ys, H1 D = some (.lst ys)) → R D i acc H1 → R D i acc H2) (r0 : ∀ D H1, H D = none → Same H H1 → H1 D = some (.lst []) → R D 0 [] H1)
    (step : ∀ D i x H1 H2 acc (N : VK) (M : Hp → Prop), i < n → H D = none → Same H H1 → H1 D = some (.lst acc) → R D i acc H1 → Y i H1 x H2 → Same H1 H2 → (∀ y H3, Same H2 H3 → R D (i + 1) (acc ++ [y]) H3 → N y H3) → (∀ H3, Same H2 H3 → R D (i + 1) acc H3 → M H3) →
      g x (wipe σ vs) H2 fun σ2 H2 => wipe σ2 vs = wipe σ vs ∧ tt σ2 H2 fun b H3 => if b = true then te σ2 H3 N else M H3)
    (post : ∀ D H2 ys, H D = none → Same H H2 → H2 D = some (.lst ys) → R D n ys H2 → Q (.ref D) H2) : LoopC J g tt te vs σ H Q := by
  intro D nD
  refine lc_it w (fun i H1 => Same H H1 ∧ ∃ acc, H1 D = some (.lst acc) ∧ R D i acc H1) ⟨same_new nD, [], upd_same, r0 D _ nD (same_new nD) upd_same⟩ (fun i H1 _ p => hG _ p.1) (fun i x H1 H2 hi p y => ?_) (fun H1 ⟨s1, acc, e1, r1⟩ => post D H1 acc nD s1 e1 r1)
  obtain ⟨s1, acc, e1, r1⟩ := p
  have s2 := hY _ _ _ _ y
  refine step D i x H1 H2 acc _ _ hi nD s1 e1 r1 y s2 (fun y H3 s3 r3 => ?_) (fun H3 s3 r3 => ⟨s1.trans (s2.trans s3), acc, s3 _ _ (s2 _ _ e1), r3⟩)
  have e3 := s3 _ _ (s2 _ _ e1)
  refine ⟨acc, e3, by have := len D i acc H1 r1; omega, (chg_upd (p := D)).same (s1.trans (s2.trans s3)) nD, _, upd_same, mono D _ _ _ _ chg_upd ⟨_, e3⟩ r3⟩
theorem yat_same {xs : List V} {i : Nat} {H1 H2 : Hp} {x : V} (y : YAt xs i H1 x H2) : Same H1 H2 := by
  rw [y.1]
  exact Same.refl _
theorem ypair_same {f1 f2 : Nat → Option V} {i : Nat} {H1 H2 : Hp} {x : V} (y : YPair f1 f2 i H1 x H2) : Same H1 H2 := by
  obtain ⟨T, a, b, rfl, h, rfl, _⟩ := y
  exact same_new h
/-- new lists by place -/
theorem c_rows {lo : Int} {i : Nat} (F : Nat → List V) (hte : ∀ (j : Nat) H1 (N : VK), j < n → Same H H1 → (∀ r H3, Same H1 H3 → H1 r = none → H3 r = some (.lst (F j)) → N (.ref r) H3) → te ((wipe σ vs).set i (some (.int (lo + j)))) H1 N) (hz : n ≤ 100000) (hw : ∀ x, wipe ((wipe σ vs).set i (some x)) vs = wipe σ vs)
    (post : ∀ D H2 (rs : List Addr), H D = none → Same H H2 → H2 D = some (.lst (rs.map V.ref)) → rs.length = n → (∀ (j : Nat) (r : Addr), rs[j]? = some r → H r = none ∧ H2 r = some (.lst (F j))) → Q (.ref D) H2) : LoopC (Itr lo n) (gName i) tYes te vs σ H Q := by
  refine c_it (walk_range (lo := lo) (n := n)) (fun D i acc H4 => acc.length = i ∧ ∀ (j : Nat) (y : V), acc[j]? = some y → ∃ r, y = .ref r ∧ r ≠ D ∧ H r = none ∧ H4 r = some (.lst (F j))) (fun _ _ => True.intro) (fun i H1 x H2 y => by rw [y.1]; exact Same.refl _) (small1000' hz)
    (fun D i acc H1 o => Nat.le_of_eq o.1) (fun D i acc H5 H6 c ⟨ys, e⟩ o => ⟨o.1, fun j y g => ?_⟩) (fun D H4 nD s e => ⟨rfl, fun j y g => by cases g⟩) (fun D j xx H4 H5 acc N M' hi nD s4 eD o y s5 hN hM => ?_) (fun D H4 ys nD s4 e4 o => ?_)
  · obtain ⟨r, rfl, hr, hr0, f⟩ := o.2 j y g
    exact ⟨r, rfl, hr, hr0, c.at f hr⟩
  · obtain ⟨rfl, rfl⟩ := y
    refine g_name ⟨hw _, t_yes ?_⟩
    refine iteTT rfl (hte j _ _ hi s4 fun r H6 s6 n6 e6 => ?_)
    refine hN _ _ s6 ⟨by rw [List.length_append, o.1]; rfl, fun k y g => ?_⟩
    by_cases hj : k < acc.length
    · rw [List.getElem?_append_left hj] at g
      obtain ⟨r1, rfl, hr, hr0, f⟩ := o.2 k y g
      exact ⟨r1, rfl, hr, hr0, s6 _ _ f⟩
    · have hj2 := (List.getElem?_eq_some_iff.mp g).1
      rw [List.length_append, List.length_singleton] at hj2
      have : k = acc.length := by omega
      subst this
      rw [List.getElem?_append_right (Nat.le_refl _), Nat.sub_self] at g
      cases g
      refine ⟨r, rfl, fun e => ?_, s4.free n6, by rw [o.1]; exact e6⟩
      subst e
      rw [eD] at n6
      cases n6
  · obtain ⟨rs, rfl⟩ : ∃ rs : List Addr, ys = rs.map V.ref := by
      have : ∀ ys : List V, (∀ y ∈ ys, ∃ r, y = .ref r) → ∃ rs : List Addr, ys = rs.map V.ref := by
        intro ys
        induction ys with
        | nil => exact fun _ => ⟨[], rfl⟩
        | cons y r ih =>
          intro h
          obtain ⟨i, rfl⟩ := h y List.mem_cons_self
          obtain ⟨xs, rfl⟩ := ih fun z hz => h z (List.mem_cons_of_mem _ hz)
          exact ⟨i :: xs, rfl⟩
      exact this ys fun y hy => by
        obtain ⟨j, hj, e⟩ := List.getElem_of_mem hy
        obtain ⟨r, h, _⟩ := o.2 j y (by rw [List.getElem?_eq_getElem hj, e])
        exact ⟨r, h⟩
    have lr := o.1
    rw [List.length_map] at lr
    refine post D H4 rs nD s4 e4 lr fun j r g => ?_
    obtain ⟨r', h, _, h2, h3⟩ := o.2 j (.ref r) (by rw [List.getElem?_map, g]; rfl)
    cases h
    exact ⟨h2, h3⟩
theorem w_zip {R : It → Hp → Prop} (h : tl σ H fun vs H1 => ∃ a b xs ys, vs = [.ref a, .ref b] ∧ SqL K H1 a xs ∧ SqL K H1 b ys ∧ R (Itz K a b) H1) : iZip K tl σ H R := h
theorem w_enum {R : It → Hp → Prop} (h : tl σ H fun vs H1 => ∃ a xs, vs = [.ref a] ∧ SqL K H1 a xs ∧ R (Ite K a) H1) : iEnum K tl σ H R := h
end
end WO
local macro_rules | `(tactic| walk_at "x") => `(tactic| with_reducible first
  | refine WO.e_fld ?_ | refine WO.s_fld ?_ | refine WO.e_meth ?_ | refine WO.e_make ?_ | refine WC.a_star ?_ | refine WE.e_revL ?_ | (apply WE.k_rev; walk_at "hp"; intro _ _ _ _ _)
  | (apply WO.k_fld; walk_at "hp"; assumption; assumption; with_unfolding_all rfl)
  | (apply WO.k_meth; walk_at "hp"; with_unfolding_all rfl)
  | refine WO.b_boolB ?_ | (apply WO.o_tup0; walk_at "hp") | (apply WO.o_tup1; walk_at "hp") | refine WO.w_zip ?_ | refine WO.w_enum ?_)
/-! WT: tables of bounds. -/
namespace WT
open PySem PySem.Spec PyProof.Rows L2 Wy WN WQ WS WC
abbrev Cell := Option (Int × List Int)
def cellD : Cell → PyData
  | none => .none
  | some p => .tuple [.int p.1, iT p.2]
def joinC (a b : Int × List Int) : Int × List Int := (a.1 + b.1, a.2 ++ b.2)
def shorter (old : Cell) (th : Int × List Int) : Cell → Cell
  | none => old
  | some r => match old with
    | some o => if o.1 ≤ th.1 + r.1 then some o else some (joinC th r)
    | none => some (joinC th r)
theorem shorter_some {o th r : Int × List Int} : shorter (some o) th (some r) = if o.1 ≤ th.1 + r.1 then some o else some (joinC th r) := rfl
def rowStep (known : List Cell) (before : Cell) (step : Int × List Int) (behind : List Cell) : List Cell := match before with
  | none => known
  | some b => (known.zip behind).map fun p => shorter p.1 (joinC b step) p.2
abbrev Tab := List (List Cell)
def cell (M : Tab) (i j : Nat) : Cell := (M.getD i []).getD j none
def bring (M : Tab) (u v : Nat) (step : Int × List Int) : Tab := M.map fun known => rowStep known (known.getD u none) step (M.getD v [])
def Sq2 (M : Tab) (n : Nat) : Prop := M.length = n + 1 ∧ ∀ row ∈ M, row.length = n + 1
/-- the ring that a difference closes -/
def ringOf (M : Tab) (d : Df) : Option (List Int) := match cell M d.2.1.toNat d.1.toNat with
  | some b => if d.2.2 + b.1 < 0 then some b.2 else none
  | none => none
def tieM (M : Tab) (d : Df) (k : Nat) : Tab := match cell M d.1.toNat d.2.1.toNat with
  | some h => if d.2.2 < h.1 then bring M d.1.toNat d.2.1.toNat (d.2.2, [(k : Int)]) else M
  | none => bring M d.1.toNat d.2.1.toNat (d.2.2, [(k : Int)])
def tab0 (n : Nat) : Tab := (List.range (n + 1)).map fun u => (List.range (n + 1)).map fun v => if v = u then some (0, []) else none
theorem cell_at {M : Tab} {n i j : Nat} (h : Sq2 M n) (hi : i ≤ n) (hj : j ≤ n) : ∃ row, M[i]? = some row ∧ row[j]? = some (cell M i j) := by
  have h1 : i < M.length := by rw [h.1]; omega
  have h2 := h.2 _ (List.getElem_mem h1)
  refine ⟨M[i], List.getElem?_eq_getElem h1, ?_⟩
  unfold cell
  rw [List.getD_eq_getElem?_getD (l := M), List.getElem?_eq_getElem h1]
  show M[i][j]? = some (M[i].getD j none)
  rw [List.getD_eq_getElem?_getD, List.getElem?_eq_getElem (by omega)]
  rfl
theorem row_of {M : Tab} {n i : Nat} (h : Sq2 M n) (hi : i ≤ n) : M[i]? = some (M.getD i []) := by
  have h1 : i < M.length := by rw [h.1]; omega
  rw [List.getD_eq_getElem?_getD, List.getElem?_eq_getElem h1]
  rfl
theorem tab0_sq (n : Nat) : Sq2 (tab0 n) n := by
  refine ⟨by simp [tab0], fun row hr => ?_⟩
  obtain ⟨u, _, rfl⟩ := List.mem_map.mp hr
  simp
theorem tab0_cell {n i j : Nat} (hi : i ≤ n) (hj : j ≤ n) : cell (tab0 n) i j = if j = i then some (0, []) else none := by
  unfold cell tab0
  rw [List.getD_eq_getElem?_getD (l := List.map _ _) (i := i), List.getElem?_map, List.getElem?_range (by omega)]
  show ((List.range (n + 1)).map _).getD j none = _
  rw [List.getD_eq_getElem?_getD, List.getElem?_map, List.getElem?_range (by omega)]
  rfl
theorem rowStep_len {known behind : List Cell} {before : Cell} {step : Int × List Int} (h : known.length = behind.length) : (rowStep known before step behind).length = known.length := by
  unfold rowStep
  cases before with
  | none => rfl
  | some b => simp; omega
theorem bring_sq {M : Tab} {n u v : Nat} {step : Int × List Int} (h : Sq2 M n) (hv : v ≤ n) : Sq2 (bring M u v step) n := by
  refine ⟨by unfold bring; rw [List.length_map]; exact h.1, fun row hr => ?_⟩
  obtain ⟨known, hk, rfl⟩ := List.mem_map.mp hr
  have h1 := h.2 _ hk
  have h2 := h.2 _ (List.mem_of_getElem? (row_of h hv))
  rw [rowStep_len (by omega)]
  exact h1
theorem bring_cell {M : Tab} {n u v i j : Nat} {step : Int × List Int} (h : Sq2 M n) (hu : u ≤ n) (hv : v ≤ n) (hi : i ≤ n) (hj : j ≤ n) :
    cell (bring M u v step) i j = match cell M i u with | none => cell M i j | some b => shorter (cell M i j) (joinC b step) (cell M v j) := by
  obtain ⟨row, g1, g2⟩ := cell_at h hi hj
  obtain ⟨_, g3, g4⟩ := cell_at h hi hu
  obtain ⟨rv, g5, g6⟩ := cell_at h hv hj
  rw [g1] at g3
  cases g3
  have gu : row.getD u none = cell M i u := by rw [List.getD_eq_getElem?_getD, g4]; rfl
  have ge : (bring M u v step)[i]? = some (rowStep row (cell M i u) step rv) := by
    unfold bring
    rw [List.getElem?_map, g1, List.getD_eq_getElem?_getD (l := M), g5]
    show some (rowStep row (row.getD u none) step rv) = _
    rw [gu]
  unfold cell
  rw [List.getD_eq_getElem?_getD (l := bring M u v step), ge]
  show (rowStep row (cell M i u) step rv).getD j none = _
  show _ = match cell M i u with | none => cell M i j | some b => shorter (cell M i j) (joinC b step) (cell M v j)
  unfold rowStep
  cases cell M i u with
  | none =>
    show row.getD j none = _
    rw [List.getD_eq_getElem?_getD, g2]
    rfl
  | some b =>
    show ((row.zip rv).map _).getD j none = _
    rw [List.getD_eq_getElem?_getD, List.getElem?_map, show (row.zip rv)[j]? = some (cell M i j, cell M v j) from List.getElem?_zip_eq_some.mpr ⟨g2, g6⟩]
    rfl
/-! ### bounds alone -/
def relax (b x : Option Int) (c : Int) (y : Option Int) : Option Int := match x, y with
  | some x, some y => (match b with
    | some o => if o ≤ x + c + y then some o else some (x + c + y)
    | none => some (x + c + y))
  | _, _ => b
abbrev bd (M : Tab) (i j : Nat) : Option Int := (cell M i j).map (·.1)
theorem bring_bd {M : Tab} {n u v i j : Nat} {step : Int × List Int} (h : Sq2 M n) (hu : u ≤ n) (hv : v ≤ n) (hi : i ≤ n) (hj : j ≤ n) : bd (bring M u v step) i j = relax (bd M i j) (bd M i u) step.1 (bd M v j) := by
  unfold bd
  rw [bring_cell h hu hv hi hj]
  cases cell M i u with
  | none => rfl
  | some b =>
    cases cell M v j with
    | none => cases cell M i j <;> rfl
    | some r =>
      cases cell M i j with
      | none => rfl
      | some o =>
        show (shorter (some o) (joinC b step) (some r)).map _ = (if o.1 ≤ b.1 + step.1 + r.1 then _ else _)
        show (shorter (some o) (joinC b step) (some r)).map _ = (if o.1 ≤ (joinC b step).1 + r.1 then some o.1 else some ((joinC b step).1 + r.1))
        rw [shorter_some]
        by_cases q : o.1 ≤ (joinC b step).1 + r.1
        · rw [if_pos q, if_pos q]
          rfl
        · rw [if_neg q, if_neg q]
          rfl
/-- closed: the ground of all bounds -/
structure Cl (n : Nat) (B : Nat → Nat → Option Int) : Prop where
  diag : ∀ i, i ≤ n → B i i = some 0
  tri : ∀ i k j x y, i ≤ n → k ≤ n → j ≤ n → B i k = some x → B k j = some y → ∃ z, B i j = some z ∧ z ≤ x + y
theorem relax_le {b x y : Option Int} {c z : Int} (h : relax b x c y = some z) : b = some z ∨ ∃ p q, x = some p ∧ y = some q ∧ z = p + c + q := by
  unfold relax at h
  cases x with
  | none => exact .inl h
  | some p =>
    cases y with
    | none => exact .inl h
    | some q =>
      cases b with
      | none => exact .inr ⟨p, q, rfl, rfl, (Option.some.inj h).symm⟩
      | some o =>
        have h : (if o ≤ p + c + q then some o else some (p + c + q)) = some z := h
        split at h
        · exact .inl h
        · exact .inr ⟨p, q, rfl, rfl, (Option.some.inj h).symm⟩
theorem relax_old {x y : Option Int} {c o : Int} : ∃ z, relax (some o) x c y = some z ∧ z ≤ o := by
  unfold relax
  cases x with
  | none => exact ⟨o, rfl, Int.le_refl _⟩
  | some p =>
    cases y with
    | none => exact ⟨o, rfl, Int.le_refl _⟩
    | some q =>
      show ∃ z, (if o ≤ p + c + q then some o else some (p + c + q)) = some z ∧ z ≤ o
      split
      · exact ⟨o, rfl, Int.le_refl _⟩
      · exact ⟨_, rfl, by omega⟩
theorem relax_new {b : Option Int} {c p q : Int} : ∃ z, relax b (some p) c (some q) = some z ∧ z ≤ p + c + q := by
  unfold relax
  cases b with
  | none => exact ⟨_, rfl, Int.le_refl _⟩
  | some o =>
    show ∃ z, (if o ≤ p + c + q then some o else some (p + c + q)) = some z ∧ z ≤ p + c + q
    split
    · exact ⟨o, rfl, by assumption⟩
    · exact ⟨_, rfl, Int.le_refl _⟩
/-- a path by old bounds, made shorter -/
theorem Cl.relax {n u v : Nat} {c : Int} {B : Nat → Nat → Option Int} (h : Cl n B) (hu : u ≤ n) (hv : v ≤ n) (hc : ∀ b, B v u = some b → 0 ≤ c + b) : Cl n fun i j => WT.relax (B i j) (B i u) c (B v j) := by
  refine ⟨fun i hi => ?_, fun i k j x y hi hk hj hx hy => ?_⟩
  · obtain ⟨z, e, le⟩ := relax_old (x := B i u) (y := B v i) (c := c) (o := 0)
    show WT.relax (B i i) _ _ _ = _
    rw [h.diag i hi]
    rcases relax_le e with e2 | ⟨p, q, e2, e3, e4⟩
    · rw [e]
      exact e2.symm
    · obtain ⟨b, e5, le2⟩ := h.tri v i u q p hv hi hu e3 e2
      have := hc b e5
      rw [e]
      exact congrArg some (by omega)
  · show ∃ z, WT.relax (B i j) (B i u) c (B v j) = some z ∧ _
    rcases relax_le hx with e1 | ⟨p, q, e1, e2, e3⟩ <;> rcases relax_le hy with f1 | ⟨p', q', f1, f2, f3⟩
    · obtain ⟨z, g1, g2⟩ := h.tri i k j x y hi hk hj e1 f1
      rw [g1]
      obtain ⟨z', g3, g4⟩ := relax_old (x := B i u) (y := B v j) (c := c) (o := z)
      exact ⟨z', g3, by omega⟩
    · obtain ⟨a, g1, g2⟩ := h.tri i k u x p' hi hk hu e1 f1
      rw [g1, f2]
      obtain ⟨z', g3, g4⟩ := relax_new (b := B i j) (c := c) (p := a) (q := q')
      exact ⟨z', g3, by omega⟩
    · obtain ⟨a, g1, g2⟩ := h.tri v k j q y hv hk hj e2 f1
      rw [g1, e1]
      obtain ⟨z', g3, g4⟩ := relax_new (b := B i j) (c := c) (p := p) (q := a)
      exact ⟨z', g3, by omega⟩
    · obtain ⟨b, g1, g2⟩ := h.tri v k u q p' hv hk hu e2 f1
      have := hc b g1
      rw [e1, f2]
      obtain ⟨z', g3, g4⟩ := relax_new (b := B i j) (c := c) (p := p) (q := q')
      exact ⟨z', g3, by omega⟩
/-- what is not shorter brings nothing -/
theorem Cl.idle {n u v i j : Nat} {c g : Int} {B : Nat → Nat → Option Int} (h : Cl n B) (hu : u ≤ n) (hv : v ≤ n) (hi : i ≤ n) (hj : j ≤ n) (hg : B u v = some g) (hc : g ≤ c) : WT.relax (B i j) (B i u) c (B v j) = B i j := by
  unfold WT.relax
  cases e1 : B i u with
  | none => rfl
  | some p =>
    cases e2 : B v j with
    | none => rfl
    | some q =>
      obtain ⟨a, f1, f2⟩ := h.tri i u v p g hi hu hv e1 hg
      obtain ⟨z, f3, f4⟩ := h.tri i v j a q hi hv hj f1 e2
      rw [f3]
      show (if z ≤ p + c + q then some z else _) = _
      rw [if_pos (by omega)]
theorem tie_bd {M : Tab} {n i j k : Nat} {d : Df} (h : Sq2 M n) (hc : Cl n (bd M)) (hd : InR n d) (hi : i ≤ n) (hj : j ≤ n) : bd (tieM M d k) i j = relax (bd M i j) (bd M i d.1.toNat) d.2.2 (bd M d.2.1.toNat j) := by
  obtain ⟨h0, h1, h2, h3⟩ := hd
  have hu : d.1.toNat ≤ n := by omega
  have hv : d.2.1.toNat ≤ n := by omega
  unfold tieM
  cases e : cell M d.1.toNat d.2.1.toNat with
  | none => exact bring_bd h hu hv hi hj
  | some g =>
    show bd (if d.2.2 < g.1 then _ else M) i j = _
    split
    · exact bring_bd h hu hv hi hj
    · exact (hc.idle hu hv hi hj (g := g.1) (by show (cell M _ _).map _ = _; rw [e]; rfl) (by omega)).symm
theorem tie_sq {M : Tab} {n k : Nat} {d : Df} (h : Sq2 M n) (hd : InR n d) : Sq2 (tieM M d k) n := by
  obtain ⟨h0, h1, h2, h3⟩ := hd
  unfold tieM
  cases e : cell M d.1.toNat d.2.1.toNat with
  | none => exact bring_sq h (by omega)
  | some g =>
    show Sq2 (if d.2.2 < g.1 then _ else M) n
    split
    · exact bring_sq h (by omega)
    · exact h
theorem ring_none {M : Tab} {d : Df} (h : ringOf M d = none) : ∀ b, bd M d.2.1.toNat d.1.toNat = some b → 0 ≤ d.2.2 + b := by
  intro b hb
  unfold bd at hb
  unfold ringOf at h
  cases e : cell M d.2.1.toNat d.1.toNat with
  | none =>
    rw [e] at hb
    cases hb
  | some g =>
    rw [e] at hb h
    have hb : g.1 = b := Option.some.inj hb
    have h : (if d.2.2 + g.1 < 0 then some g.2 else none) = none := h
    split at h
    · cases h
    · omega
/-- lengths -/
def Short (M : Tab) (L : Nat) : Prop := ∀ row ∈ M, ∀ c, some c ∈ row → c.2.length ≤ L
theorem shorter_len {L : Nat} {old rest : Cell} {th : Int × List Int} {c : Int × List Int} (h1 : ∀ c, old = some c → c.2.length ≤ L) (h2 : ∀ r, rest = some r → th.2.length + r.2.length ≤ L) (h : shorter old th rest = some c) : c.2.length ≤ L := by
  unfold shorter at h
  cases rest with
  | none => exact h1 c h
  | some r =>
    have := h2 r rfl
    cases old with
    | none =>
      cases h
      simp only [joinC, List.length_append]
      omega
    | some o =>
      have h : (if o.1 ≤ th.1 + r.1 then some o else some (joinC th r)) = some c := h
      split at h
      · exact h1 c h
      · cases h
        simp only [joinC, List.length_append]
        omega
theorem bring_short {M : Tab} {u v : Nat} {c k : Int} {L : Nat} (h : Short M L) : Short (bring M u v (c, [k])) (2 * L + 1) := by
  intro row hr x hx
  obtain ⟨known, hk, rfl⟩ := List.mem_map.mp hr
  unfold rowStep at hx
  cases e : known.getD u none with
  | none =>
    rw [e] at hx
    have := h known hk x hx
    omega
  | some b =>
    rw [e] at hx
    have hb : b.2.length ≤ L := h known hk b (by
      rw [List.getD_eq_getElem?_getD] at e
      cases e2 : known[u]? with
      | none =>
        rw [e2] at e
        cases e
      | some y =>
        rw [e2] at e
        have e : y = some b := e
        rw [← e]
        exact List.mem_of_getElem? e2)
    obtain ⟨⟨o, r⟩, hp, e2⟩ := List.mem_map.mp hx
    have ho := (List.of_mem_zip hp).1
    have hr := (List.of_mem_zip hp).2
    refine shorter_len (fun c hc => ?_) (fun c hc => ?_) e2
    · have := h known hk c (hc ▸ ho)
      omega
    · have hm : M.getD v [] ∈ M := by
        rw [List.getD_eq_getElem?_getD] at hr ⊢
        cases e3 : M[v]? with
        | none =>
          rw [e3] at hr
          cases hr
        | some y => exact List.mem_of_getElem? e3
      have := h _ hm c (hc ▸ hr)
      simp only [joinC, List.length_append, List.length_singleton]
      omega
theorem tie_short {M : Tab} {d : Df} {k L : Nat} (h : Short M L) : Short (tieM M d k) (2 * L + 1) := by
  have h' : Short M (2 * L + 1) := fun r hr c hc => by have := h r hr c hc; omega
  unfold tieM
  cases e : cell M d.1.toNat d.2.1.toNat with
  | none => exact bring_short h
  | some g =>
    show Short (if d.2.2 < g.1 then _ else M) _
    split
    · exact bring_short h
    · exact h'
/-! ### a System in the heap -/
structure Spot where
  dx : Addr
  dl : Addr
  tp : Addr
  rs : List Addr
def RowAt (H : Hp) (r : Addr) (row : List Cell) : Prop := ∃ cs, H r = some (.lst cs) ∧ TpAll H cs (row.map cellD)
abbrev sysFs (S : Spot) (n : Nat) : List (Str × V) := [("many", .int n), ("differences", .ref S.dl), ("_table", .ref S.tp)]
structure SysAt (K : PySem.W.Frag) (H : Hp) (x : Addr) (S : Spot) (n : Nat) (ds : List Df) (M : Tab) : Prop where
  ins : H x = some (.ins (He.ga K "System") S.dx (sysFs S n))
  diffs : ∃ us, H S.dl = some (.lst us) ∧ TpAll H us (ds.map dfD)
  tab : H S.tp = some (.lst (S.rs.map V.ref))
  len : S.rs.length = M.length
  rows : ∀ (i : Nat) (r : Addr) (row : List Cell), S.rs[i]? = some r → M[i]? = some row → RowAt H r row
  ap1 : S.dl ∉ S.rs
  ap2 : S.dl ≠ S.tp
  sq : Sq2 M n
/-- what stands, but for some places -/
def KeepBut (A : List Addr) (H H' : Hp) : Prop := ∀ b o, b ∉ A → H b = some o → H' b = some o
theorem KeepBut.refl {A : List Addr} {H : Hp} : KeepBut A H H := fun _ _ _ e => e
theorem KeepBut.trans {A : List Addr} {H H1 H2 : Hp} (h : KeepBut A H H1) (k : KeepBut A H1 H2) : KeepBut A H H2 := fun b o n e => k b o n (h b o n e)
theorem Same.but {A : List Addr} {H H1 : Hp} (s : Same H H1) : KeepBut A H H1 := fun b o _ e => s b o e
theorem Chg.but {A : List Addr} {p : Addr} {H H1 : Hp} (c : Chg p H H1) (h : p ∈ A) : KeepBut A H H1 := fun b o n e => c.at e (fun q => n (q ▸ h))
theorem KeepBut.mono {A B : List Addr} {H H1 : Hp} (h : KeepBut A H H1) (s : ∀ a ∈ A, a ∈ B) : KeepBut B H H1 := fun b o n e => h b o (fun q => n (s b q)) e
/-- not a tuple -/
def noTup : HO → Bool
  | .tup _ => false
  | _ => true
theorem KeepBut.tk {A : List Addr} {H H1 : Hp} (h : KeepBut A H H1) (ht : ∀ a ∈ A, ∃ o, H a = some o ∧ noTup o = true) : TK H H1 := fun a xs e => h a _ (fun q => by
  obtain ⟨o, e2, n⟩ := ht a q
  rw [e] at e2
  cases e2
  cases n) e
theorem SysAt.keep {K : PySem.W.Frag} {H H' : Hp} {x : Addr} {S : Spot} {n : Nat} {ds : List Df} {M : Tab} (s : SysAt K H x S n ds M) {A : List Addr} (k : KeepBut A H H') (tk : TK H H') (h1 : x ∉ A) (h2 : S.dl ∉ A) (h3 : S.tp ∉ A) (h4 : ∀ r ∈ S.rs, r ∉ A) : SysAt K H' x S n ds M := by
  obtain ⟨us, e1, t1⟩ := s.diffs
  refine ⟨k _ _ h1 s.ins, ⟨us, k _ _ h2 e1, t1.tk tk⟩, k _ _ h3 s.tab, s.len, fun i r row hr hm => ?_, s.ap1, s.ap2, s.sq⟩
  obtain ⟨cs, e2, t2⟩ := s.rows i r row hr hm
  exact ⟨cs, k _ _ (h4 r (List.mem_of_getElem? hr)) e2, t2.tk tk⟩
theorem SysAt.same {K : PySem.W.Frag} {H H' : Hp} {x : Addr} {S : Spot} {n : Nat} {ds : List Df} {M : Tab} (s : SysAt K H x S n ds M) (k : Same H H') : SysAt K H' x S n ds M :=
  s.keep (A := []) (Same.but k) k.tk (by simp) (by simp) (by simp) (by simp)
theorem SysAt.get {K : PySem.W.Frag} {H : Hp} {x : Addr} {S : Spot} {n : Nat} {ds : List Df} {M : Tab} (s : SysAt K H x S n ds M) {u : Nat} (hu : u ≤ n) : ∃ r cs, S.rs[u]? = some r ∧ H r = some (.lst cs) ∧ TpAll H cs ((M.getD u []).map cellD) ∧ cs.length = n + 1 := by
  have hm := row_of s.sq hu
  have hl := s.sq.2 _ (List.mem_of_getElem? hm)
  have h1 : u < S.rs.length := by rw [s.len, s.sq.1]; omega
  obtain ⟨cs, e, t⟩ := s.rows u S.rs[u] _ (List.getElem?_eq_getElem h1) hm
  refine ⟨_, cs, List.getElem?_eq_getElem h1, e, t, ?_⟩
  rw [t.length, List.length_map]
  exact hl
theorem row_cell {H : Hp} {M : Tab} {n u v : Nat} {cs : List V} (hq : Sq2 M n) (hu : u ≤ n) (hv : v ≤ n) (t : TpAll H cs ((M.getD u []).map cellD)) : ∃ y, cs[v]? = some y ∧ Tp H y (cellD (cell M u v)) := by
  obtain ⟨row, g1, g2⟩ := cell_at hq hu hv
  have : M.getD u [] = row := by rw [List.getD_eq_getElem?_getD, g1]; rfl
  rw [this] at t
  exact tpAt t g2
theorem cellN {H : Hp} {y : V} {c : Cell} (t : Tp H y (cellD c)) (e : c = none) : y = .non := by
  subst e
  cases t
  rfl
theorem cellS {H : Hp} {y : V} {c : Cell} {p : Int × List Int} (t : Tp H y (cellD c)) (e : c = some p) : ∃ a b, y = .ref a ∧ H a = some (.tup [.int p.1, .ref b]) ∧ H b = some (.tup (p.2.map V.int)) := by
  subst e
  obtain ⟨a, v1, v2, rfl, e, t1, t2⟩ := WQ.tp2 (show Tp H y (.tuple [.int p.1, iT p.2]) from t)
  cases t1
  obtain ⟨b, rfl, e2⟩ := tpI t2
  exact ⟨a, b, rfl, e, e2⟩
theorem cellT {H : Hp} {a b : Addr} {p : Int × List Int} (e : H a = some (.tup [.int p.1, .ref b])) (e2 : H b = some (.tup (p.2.map V.int))) : Tp H (.ref a) (cellD (some p)) := .tup e (.cons (.int _) (.cons (iT_tp e2) .nil))
theorem refs_of {ys : List V} (h : ∀ (j : Nat) (y : V), ys[j]? = some y → ∃ r, y = .ref r) : ∃ rs : List Addr, ys = rs.map V.ref := by
  have : ∀ ys : List V, (∀ y ∈ ys, ∃ r, y = .ref r) → ∃ rs : List Addr, ys = rs.map V.ref := by
    intro ys
    induction ys with
    | nil => exact fun _ => ⟨[], rfl⟩
    | cons y r ih =>
      intro h
      obtain ⟨i, rfl⟩ := h y List.mem_cons_self
      obtain ⟨xs, rfl⟩ := ih fun z hz => h z (List.mem_cons_of_mem _ hz)
      exact ⟨i :: xs, rfl⟩
  refine this ys fun y hy => ?_
  obtain ⟨j, hj, e⟩ := List.getElem_of_mem hy
  exact h j y (by rw [List.getElem?_eq_getElem hj, e])
/-! ### promises -/
section
variable {K : PySem.W.Frag}
def spSysInit (K : PySem.W.Frag) : Sp := fun vs H Q _ => ∃ (x dx : Addr) (n : Nat), vs = [.ref x, .int n] ∧ H x = some (.ins (He.ga K "System") dx []) ∧ n ≤ 1000 ∧
  ∀ H' S, KeepBut [x] H H' → SysAt K H' x S n [] (tab0 n) → S.dx = dx → H S.dl = none → H S.tp = none → (∀ r ∈ S.rs, H r = none) → Q .non H'
def spBound (K : PySem.W.Frag) : Sp := fun vs H Q _ => ∃ (x : Addr) (S : Spot) (n : Nat) (ds : List Df) (M : Tab) (u v : Int), vs = [.ref x, .int u, .int v] ∧ SysAt K H x S n ds M ∧ 0 ≤ u ∧ u ≤ n ∧ 0 ≤ v ∧ v ≤ n ∧ Q (oI (bd M u.toNat v.toNat)) H
def spTie (K : PySem.W.Frag) : Sp := fun vs H Q _ => ∃ (x : Addr) (d : V) (S : Spot) (n : Nat) (ds : List Df) (M : Tab) (df : Df) (L : Nat), vs = [.ref x, d] ∧ SysAt K H x S n ds M ∧ Tp H d (dfD df) ∧ InR n df ∧ ds.length ≤ 1000 ∧ n ≤ 1000 ∧ Short M L ∧ 2 * L + 1 ≤ 5000000 ∧
  (∀ bs, ringOf M df = some bs → ∀ p H', KeepBut [S.dl] H H' → H p = none → H' p = some (.tup (((ds.length : Int) :: bs).map V.int)) → Q (.ref p) H') ∧
  (ringOf M df = none → ∀ H' S', KeepBut [x, S.dl] H H' → SysAt K H' x S' n (ds ++ [df]) (tieM M df ds.length) → S'.dx = S.dx → S'.dl = S.dl → (S'.tp = S.tp ∨ H S'.tp = none) → (∀ r ∈ S'.rs, r ∈ S.rs ∨ H r = none) → Q .non H')
def spBring (K : PySem.W.Frag) : Sp := fun vs H Q _ => ∃ (x st : Addr) (S : Spot) (n : Nat) (ds : List Df) (M : Tab) (u v : Int) (p : Int × List Int) (L : Nat), vs = [.ref x, .int u, .int v, .ref st] ∧ SysAt K H x S n ds M ∧ Tp H (.ref st) (cellD (some p)) ∧ 0 ≤ u ∧ u ≤ n ∧ 0 ≤ v ∧ v ≤ n ∧ n ≤ 1000 ∧ Short M L ∧ 2 * L + p.2.length ≤ 5000000 ∧
  ∀ H' S', KeepBut [x] H H' → SysAt K H' x S' n ds (bring M u.toNat v.toNat p) → S'.dx = S.dx → S'.dl = S.dl → H S'.tp = none → (∀ r ∈ S'.rs, r ∈ S.rs ∨ H r = none) → Q .non H'
def spRowS (K : PySem.W.Frag) : Sp := fun vs H Q _ => ∃ (r bh : Addr) (bf st : V) (cs ks : List V) (row behind : List Cell) (before : Cell) (p : Int × List Int) (L : Nat), vs = [.ref r, bf, st, .ref bh] ∧ H r = some (.lst cs) ∧ TpAll H cs (row.map cellD) ∧ Tp H bf (cellD before) ∧ Tp H st (cellD (some p)) ∧
  H bh = some (.lst ks) ∧ TpAll H ks (behind.map cellD) ∧ row.length = behind.length ∧ row.length ≤ 2000 ∧ (∀ c, before = some c → c.2.length ≤ L) ∧ (∀ c, some c ∈ behind → c.2.length ≤ L) ∧ 2 * L + p.2.length ≤ 5000000 ∧
  ∀ q H' cs', Same H H' → H' q = some (.lst cs') → TpAll H' cs' ((rowStep row before p behind).map cellD) → (q = r ∨ H q = none) → Q (.ref q) H'
def spJoin (K : PySem.W.Frag) : Sp := fun vs H Q _ => ∃ (x y : V) (a b : Int × List Int), vs = [x, y] ∧ Tp H x (cellD (some a)) ∧ Tp H y (cellD (some b)) ∧ a.2.length + b.2.length ≤ 6000000 ∧ ∀ p H', Same H H' → Tp H' p (cellD (some (joinC a b))) → Q p H'
def spShorter (K : PySem.W.Frag) : Sp := fun vs H Q _ => ∃ (x y z : V) (old rest : Cell) (a : Int × List Int), vs = [x, y, z] ∧ Tp H x (cellD old) ∧ Tp H y (cellD (some a)) ∧ Tp H z (cellD rest) ∧ (∀ c, rest = some c → a.2.length + c.2.length ≤ 6000000) ∧ ∀ p H', Same H H' → Tp H' p (cellD (shorter old a rest)) → Q p H'
def spRaised (K : PySem.W.Frag) : Sp := fun vs H Q _ => ∃ (a b e : Addr) (zs : List Int) (us : List V) (ds : List Df) (vals : List Int), vs = [.ref a, .ref b, .ref e] ∧ SqL K H a (zs.map V.int) ∧ H b = some (.lst us) ∧ TpAll H us (ds.map dfD) ∧ H e = some (.lst (vals.map V.int)) ∧ (∀ d ∈ ds, InR vals.length d) ∧ ds.length ≤ 900 ∧ vals.length ≤ 900 ∧
  ∀ p H' us' ds', Same H H' → H p = none → H' p = some (.lst us') → TpAll H' us' ((ds' : List Df).map dfD) → ds'.length = ds.length → (∀ d ∈ ds', InR vals.length d) → Q (.ref p) H'
/-! ### matrices of bounds -/
structure MatAt (H : Hp) (p : Addr) (rs : List Addr) (n : Nat) (B : Nat → Nat → Option Int) : Prop where
  tab : H p = some (.lst (rs.map V.ref))
  len : rs.length = n + 1
  rows : ∀ (i : Nat) (r : Addr), rs[i]? = some r → H r = some (.lst ((List.range (n + 1)).map fun j => oI (B i j)))
theorem MatAt.same {H H' : Hp} {p : Addr} {rs : List Addr} {n : Nat} {B : Nat → Nat → Option Int} (m : MatAt H p rs n B) (s : Same H H') : MatAt H' p rs n B := ⟨s _ _ m.tab, m.len, fun i r g => s _ _ (m.rows i r g)⟩
theorem MatAt.keep {H H' : Hp} {p : Addr} {rs : List Addr} {n : Nat} {B : Nat → Nat → Option Int} (m : MatAt H p rs n B) {A : List Addr} (k : KeepBut A H H') (h1 : p ∉ A) (h2 : ∀ r ∈ rs, r ∉ A) : MatAt H' p rs n B := ⟨k _ _ h1 m.tab, m.len, fun i r g => k _ _ (h2 r (List.mem_of_getElem? g)) (m.rows i r g)⟩
theorem MatAt.cong {H : Hp} {p : Addr} {rs : List Addr} {n : Nat} {B B' : Nat → Nat → Option Int} (m : MatAt H p rs n B) (h : ∀ i j, i ≤ n → j ≤ n → B i j = B' i j) : MatAt H p rs n B' := ⟨m.tab, m.len, fun i r g => by
  have hi := (List.getElem?_eq_some_iff.mp g).1
  have hl := m.len
  rw [m.rows i r g]
  refine congrArg (fun z => some (HO.lst z)) (List.map_congr_left fun j hj => ?_)
  rw [h i j (by omega) (by have := List.mem_range.mp hj; omega)]⟩
theorem ix_mat {K : PySem.W.Frag} {H : Hp} {Q : VK} {p : Addr} {rs : List Addr} {n : Nat} {B : Nat → Nat → Option Int} (m : MatAt H p rs n B) {i : Int} (h0 : 0 ≤ i) (h1 : i ≤ n) (h : ∀ r, rs[i.toNat]? = some r → H r = some (.lst ((List.range (n + 1)).map fun j => oI (B i.toNat j))) → Q (.ref r) H) : rIx K (.ref p) (.int i) H Q := by
  have hl := m.len
  have g := List.getElem?_eq_getElem (l := rs) (i := i.toNat) (by omega)
  exact o_ixL (lst_of m.tab) (atI_of (j := i.toNat) (by omega) (v := .ref rs[i.toNat]) (by rw [List.getElem?_map, g]; rfl)) (h _ g (m.rows _ _ g))
theorem ix_row {K : PySem.W.Frag} {H : Hp} {Q : VK} {r : Addr} {n : Nat} {F : Nat → Option Int} (e : H r = some (.lst ((List.range (n + 1)).map fun j => oI (F j)))) {i : Int} (h0 : 0 ≤ i) (h1 : i ≤ n) (h : Q (oI (F i.toNat)) H) : rIx K (.ref r) (.int i) H Q :=
  o_ixL (lst_of e) (atI_of (j := i.toNat) (by omega) (by rw [List.getElem?_map, List.getElem?_range (by omega)]; rfl)) h
theorem mat_of {H : Hp} {p : Addr} {rs : List Addr} {n : Nat} {B : Nat → Nat → Option Int} (e : H p = some (.lst (rs.map V.ref))) (l : rs.length = n + 1) (h : ∀ (i : Nat) (r : Addr), rs[i]? = some r → H r = some (.lst ((List.range (n + 1)).map fun j => oI (B i j)))) : MatAt H p rs n B := ⟨e, l, h⟩
theorem tab0_bd {n i j : Nat} (hi : i ≤ n) (hj : j ≤ n) : bd (tab0 n) i j = if i = j then some 0 else none := by
  unfold bd
  rw [tab0_cell hi hj]
  by_cases h : i = j
  · rw [if_pos h, if_pos h.symm]
    rfl
  · rw [if_neg h, if_neg (fun e => h e.symm)]
    rfl
theorem tab0_cl (n : Nat) : Cl n (bd (tab0 n)) := ⟨fun i hi => by rw [tab0_bd hi hi, if_pos rfl], fun i k j x y hi hk hj hx hy => by
  rw [tab0_bd hi hk] at hx
  rw [tab0_bd hk hj] at hy
  split at hx
  · split at hy
    · cases hx
      cases hy
      refine ⟨0, ?_, by omega⟩
      rw [tab0_bd hi hj, if_pos (by omega)]
    · cases hy
  · cases hx⟩
theorem tab0_short (n : Nat) : Short (tab0 n) 0 := fun row hr c hc => by
  obtain ⟨u, _, rfl⟩ := List.mem_map.mp hr
  obtain ⟨v, _, e⟩ := List.mem_map.mp hc
  split at e
  · cases e
    exact Nat.le_refl _
  · cases e
theorem tie_cl {M : Tab} {n k : Nat} {d : Df} (h : Sq2 M n) (hc : Cl n (bd M)) (hd : InR n d) (hr : ringOf M d = none) : Cl n (bd (tieM M d k)) := by
  have := hc.relax (u := d.1.toNat) (v := d.2.1.toNat) (c := d.2.2) (by have := hd.2.1; omega) (by have := hd.2.2.2; omega) (ring_none hr)
  exact ⟨fun i hi => by rw [tie_bd h hc hd hi hi]; exact this.diag i hi, fun i k j x y hi hk hj hx hy => by
    rw [tie_bd h hc hd hi hk] at hx
    rw [tie_bd h hc hd hk hj] at hy
    rw [tie_bd h hc hd hi hj]
    exact this.tri i k j x y hi hk hj hx hy⟩
def spJoinM : Sp := fun vs H Q _ => ∃ (a : Addr) (d : V) (rs : List Addr) (n : Nat) (B : Nat → Nat → Option Int) (df : Df), vs = [.ref a, d] ∧ MatAt H a rs n B ∧ Tp H d (dfD df) ∧ InR n df ∧ n ≤ 1000 ∧
  ∀ p H' rs', Same H H' → H p = none → (∀ r ∈ rs', H r = none) → MatAt H' p rs' n (fun i j => relax (B i j) (B i df.1.toNat) df.2.2 (B df.2.1.toNat j)) → Q (.ref p) H'
end
end WT
/-! WG: defs that run while no repr is under way. -/
namespace WG
open PySem PySem.Spec PyProof.Rows L2 Wy WN WQ
/-- as FnOk, but from callers alone in which no repr is under way -/
structure FnG (P : Program) (w : World) (K : PySem.W.Frag) (mg : Str → Option Value) (base : Heap) (k : Nat) (f : Addr) (fd : FuncData) (ps : List Str) (sp : Sp) : Prop where
  len : ∀ vs H Q E, sp vs H Q E → vs.length = ps.length
  run : ∀ (A : Around) (outer : List Env) (s : Shared) (H : Hp) (args : Args) (us : List Value) (vs : List V) (Q : VK) (E : XK), Room k A → A.guards = some [] → Env0 P w K mg base A outer s H →
    BindsTo s fd args (ps.zip us) → Vals vs us → sp vs H Q E → codeAny (model P w) A (.call (.ref f) args) (CR CX0 outer P w H s Q E) s
section
variable {P : Program} {w : World} {K : PySem.W.Frag} {mg : Str → Option Value} {base : Heap} {k : Nat} {f : Addr} {x qual : Str} {st : Stmt} {N ps : List Str} {sp : Sp}
theorem fnG (fd : FuncData) (F : FunD K x qual (defArgs st) (defBody st) (defScope st) [] [] f fd) (S : FnScope N ps (defScope st)) (len : ∀ vs H Q E, sp vs H Q E → vs.length = ps.length)
    (body : ∀ (f : Addr) (cdv : Value) (A : Around) (outer : List Env) (s : Shared) (H : Hp) (vs : List V) (Q : VK) (E : XK), Room k (A.deeper (envOfC qual (defScope st) s.heap.objs.size f cdv)) → (A.deeper (envOfC qual (defScope st) s.heap.objs.size f cdv)).guards = some [] → sp vs H Q E →
      ∃ t, PSs (cxOf CX0 P w K mg base N qual (defScope st) f cdv A outer s H E).nox (defBody st) t ∧ t { nx := fun _ H' => Q .non H', rt := Q } (start N vs) H) : FnG P w K mg base (k + 1) f fd ps sp := by
  obtain ⟨oc, od, dV, kV, doc, pm, an, cdv, ct, osl, rfl, lk, hcd, _, _⟩ := F.ex
  constructor
  · exact len
  · intro A outer s H args us vs Q E room quiet env bd rel told
    have stays : ∀ (b : Addr) (o : Obj), base.get? b = some o → s.heap.get? b = some o := fun b o q => (env.bs b o q).1
    have count := len vs H Q E told
    have heap : K.In s.heap := env.mod.kin.keeps stays
    refine codeAny_call_function room.depth (heap _ _ lk) rfl S.co S.gen rfl (PySem.W.codeRec_of heap hcd) ?_
    refine bd _ _ _ _ (wpAny_newFunctionEnv_cells S.kind ?kinds fun e he s1 made => ?_)
    case kinds =>
      intro y hy
      cases S.par y.1 (List.of_mem_zip (a := y.1) (b := y.2) hy).1 with
      | inl q => exact Or.inl q
      | inr q => exact Or.inr (And.intro q (PySem.W.cellsFrom_some _ _ _ (Or.inl q)))
    subst he
    have nolim : s.heap.NoLimit := env.mod.nolimit.keeps stays
    refine And.intro (nolim.keeps made.toInCall.keep) (codeAny_func ?_)
    obtain ⟨t, d, rd⟩ := body f cdv A outer s H vs Q E (room.deeper _) (by exact quiet) told
    have inv := inv_start (CX := CX0) (E := E) S room.hd env count rel made
    have ran := (PSs.nox d).run [] s1 (start N vs) H _ inv rd
    refine wpAny_mono ran (fun fl s' out => ?_) (fun e s' out => out)
    match fl, out with
    | .ret u, ⟨v, _, H', J, r, z⟩ => exact ⟨v, H', J.os, J.bare, J.base, J.hok, r, z⟩
    | .next, ⟨_, H', J, z⟩ => exact ⟨.non, H', J.os, J.bare, J.base, J.hok, rfl, z⟩
    | .brk, ⟨_, _, _, z⟩ => exact z.elim
    | .cont, ⟨_, _, _, z⟩ => exact z.elim
/-- a def that may be called where no repr is under way -/
structure CalG (P : Program) (w : World) (K : PySem.W.Frag) (mg : Str → Option Value) (base : Heap) (k : Nat) (x : Str) (sp : Sp) : Prop where
  ex : ∃ (f : Addr) (fd : FuncData) (ps : List Str), FnG P w K mg base k f fd ps sp ∧ mg x = some (.ref f) ∧ PySem.W.keepIn K (.ref f) = true ∧ Binds K fd ps []
theorem cal_ofG (F : DefOk K mg x st) (S : FnScope N ps (defScope st)) (hb : ∀ f fd, FunD K x x (defArgs st) (defBody st) (defScope st) [] [] f fd → Binds K fd ps []) (len : ∀ vs H Q E, sp vs H Q E → vs.length = ps.length)
    (body : ∀ (f : Addr) (cdv : Value) (A : Around) (outer : List Env) (s : Shared) (H : Hp) (vs : List V) (Q : VK) (E : XK), Room k (A.deeper (envOfC x (defScope st) s.heap.objs.size f cdv)) → (A.deeper (envOfC x (defScope st) s.heap.objs.size f cdv)).guards = some [] → sp vs H Q E →
      ∃ t, PSs (cxOf CX0 P w K mg base N x (defScope st) f cdv A outer s H E).nox (defBody st) t ∧ t { nx := fun _ H' => Q .non H', rt := Q } (start N vs) H) : CalG P w K mg base (k + 1) x sp := by
  obtain ⟨f, fd, F, hm⟩ := F.ex
  exact ⟨f, fd, ps, fnG fd F S len body, hm, F.kp, hb f fd F⟩
end
section
variable {X : Cx} {k j : Nat} {x : Str} {sp : Sp} {p pos : Pos} {e : Expr} {es : List Expr} {t : TA}
theorem pe_cG (c : CalG X.prog X.w X.K X.mg X.base k x sp) (hr : Room j X.A) (hk : k ≤ j) (hq : X.A.guards = some []) (hg : Gl X x) (ha : PA X (e :: es) t) (hdb : (x == ("__debug__" : Str)) = false := by decide)
    (he : starEach (e :: es) X.env = (false, eval e X.env) :: starEach es X.env := by rfl) (hpl : (backTo pos (starEach es X.env)).any (·.1) = false := by rfl) : PE X (.Call (.Name x p) (e :: es) [] pos) (tCall sp [] C8.E0 t) := by
  obtain ⟨f, fd, ps, F, hm, kp, b⟩ := c.ex
  constructor
  intro pins s σ H Q I h
  refine wpAny_Call_Name_kw (ld_glob I hg hm ?_ hdb)
  refine PySem.W.callWith_K (h₀ := X.base) I.ok.mod.kin kp ?_ he hpl
  refine thn (ha.run pos pins s σ H _ I h) fun us s1 ⟨vs, H1, I1, r, q⟩ => And.intro I1.kIn ?_
  have q : sp (vs ++ []) H1 Q C8.E0 := q
  rw [List.append_nil] at q
  have fits : us.length = ps.length := r.length.symm.trans (F.len vs H1 Q C8.E0 q)
  have bt := b s1 us I1.kIn (by rw [List.append_nil]; exact fits)
  rw [List.append_nil] at bt
  refine wpAny_call (codeAny_mono (F.run X.A X.stack s1 H1 ⟨us, []⟩ us vs Q C8.E0 (hr.mono hk) hq I1.env0 bt r q) ?_)
  intro res s' out
  match res, out with
  | .error _, z => exact z.elim
  | .ok (.ret _), z => exact I1.after z
  | .ok .next, z => exact z.elim
  | .ok .brk, z => exact z.elim
  | .ok .cont, z => exact z.elim
theorem call_reprG (hq : X.A.guards = some []) (hu : X.A.units + 64 < cLine) : CallR X (.builtin "repr") (rRepr X.K) := by
  intro pins s σ H xs us Q I r h
  obtain ⟨a, d, rfl, hd, hs, hn, hdp, hz, q⟩ := h
  obtain ⟨u, eu, rx⟩ := vals1 r
  subst eu
  obtain rfl : u = Value.ref a := rx
  obtain ⟨as, rd⟩ := Dp.reads I d _ _ hd rfl
  refine repr_of_reads' (h₀ := s.heap) rd hs (fun z => by rw [hn] at z; cases z) hq (by omega) (fun _ _ e => e) (fun h' u tk keep => ?_) hz
  exact ⟨.str d.shown, H, I.kept keep, ⟨u, rfl⟩, q⟩
end
/-! ### the end -/
section
variable {P : Program} {w : World} {K : PySem.W.Frag} {mg mb : Str → Option Value} {k : Nat} {fa a : Addr} {fd : FuncData} {x : Str} {sp : Sp} {s : Shared} {vs : List Value} {ns : List Int}
/-- the entry of the law, over what is not tracked -/
theorem enter (kin : K.In s.heap) (glob : s.heap.Ns mainGlobals mg) (blt : s.heap.Ns builtinsNs mb) (boot : ∀ x : Str, x ≠ "__name__" → mb x = bootBuiltins x) (nolim : s.heap.NoLimit) (gens : s.gens = #[])
    (obj : s.heap.get? a = some { cls := .type "list", data := .seq vs.toArray }) {H : Hp} (hok : HOk P w H s.heap) (one : ∀ b, H b ≠ none → b = a) (own : H a ≠ none → K.lookup a = none) :
    Env0 P w K mg (hidT s.heap H) callerA [] s H := by
  have free : ∀ b : Addr, b ≠ a → H b = none := fun b n => Classical.byContradiction fun z => n (one b z)
  have spaces : ∀ {b : Addr} {m : Str → Option Value}, s.heap.Ns b m → (hidT s.heap H).Ns b m := by
    rintro b m ⟨o, es, ep, e, d, r⟩
    refine ⟨o, es, ep, hidT_get e (free b fun z => ?_), d, r⟩
    rw [z, obj] at e
    rw [← Option.some.inj e] at d
    cases d
  have frag : K.In (hidT s.heap H) := by
    intro b o e
    by_cases q : H b = none
    · exact hidT_get (kin b o e) q
    · rw [one b q] at e q
      rw [own q] at e
      cases e
  obtain ⟨mc, l1, l2⟩ := nolim
  constructor
  · rfl
  · exact { kin := frag, glob := spaces glob, blt := ⟨mb, spaces blt, boot⟩, nolimit := ⟨mc, spaces l1, l2⟩ }
  · exact fun b o e => of_hidT e
  · exact Nat.le_of_eq (hidT_size s.heap H)
  · trivial
  · intro b hb
    simp [frs] at hb
  · exact hok
  · exact .of_eq gens
theorem lawG (kin : K.In s.heap) (glob : s.heap.Ns mainGlobals mg) (blt : s.heap.Ns builtinsNs mb) (boot : ∀ x : Str, x ≠ "__name__" → mb x = bootBuiltins x) (nolim : s.heap.NoLimit) (gens : s.gens = #[])
    (obj : s.heap.get? a = some { cls := .type "list", data := .seq vs.toArray }) (inn : IntsAre vs ns) (few : ns.length ≤ sizeLine) (room : Room k callerA) (F : ∀ base : Heap, FnG P w K mg base k fa fd [x] sp)
    (bd : ∀ (s : Shared) (u : Value), BindsTo s fd ⟨[u], []⟩ [(x, u)]) (told : ∀ H : Hp, SqL K H a (ns.map V.int) → sp [.ref a] H (fun v _ => v = .bl true) fun _ _ _ => False) :
    codeAny (model P w) callerA (.call (.ref fa) ⟨[.ref a], []⟩) (fun r s' => r = .ok (.ret (.bool true)) ∧ OldK s.heap s'.heap ∧ s'.os = s.os ∧ AllBare s'.gens) s := by
  have rel := vals_ints inn
  have count := inn.length
  obtain ⟨H, hok, one, own, frz, seq⟩ : ∃ H : Hp, HOk P w H s.heap ∧ (∀ b, H b ≠ none → b = a) ∧ (H a ≠ none → K.lookup a = none) ∧ (∀ b u, H b = some u → ∃ o xs, u = .frz o (.lst xs)) ∧ SqL K H a (ns.map V.int) := by
    cases lk : K.lookup a with
    | some o =>
      have e := kin a o lk
      rw [obj] at e
      cases e
      refine ⟨fun _ => none, (fun b u z => by cases z), (fun b z => absurd rfl z), (fun z => absurd rfl z), (fun b u z => by cases z), .inr ⟨_, vs.toArray, _, lk, rfl, rfl, rfl, ?_, ?_⟩⟩
      · rw [List.size_toArray, count]
        exact few
      · simpa using rel
    | none =>
      let O : Obj := { cls := .type "list", data := .seq vs.toArray }
      have at_ : ∀ b u, (if b = a then some (HO.frz O (.lst (ns.map V.int))) else none) = some u → b = a ∧ u = .frz O (.lst (ns.map V.int)) := fun b u z => by
        by_cases q : b = a
        · rw [if_pos q] at z
          exact ⟨q, (Option.some.inj z).symm⟩
        · rw [if_neg q] at z
          cases z
      refine ⟨fun b => if b = a then some (.frz O (.lst (ns.map V.int))) else none, fun b u z => ?_, fun b z => ?_, fun _ => rfl, fun b u z => ⟨_, _, (at_ b u z).2⟩, .inl (.inr ⟨O, if_pos rfl⟩)⟩
      · obtain ⟨rfl, rfl⟩ := at_ b u z
        exact ⟨obj, by rw [List.length_map]; exact few, vs, _, rel, obj⟩
      · by_cases q : b = a
        · exact q
        · exact absurd (if_neg q) z
  have env := enter (P := P) (w := w) kin glob blt boot nolim gens obj hok one own
  refine codeAny_mono ((F _).run callerA [] s H ⟨[.ref a], []⟩ [.ref a] [.ref a] _ _ room rfl env (bd s (.ref a)) (.cons rfl .nil) (told H seq)) ?_
  intro res s' out
  match res, out with
  | .error _, z => exact z.elim
  | .ok .next, z => exact z.elim
  | .ok .brk, z => exact z.elim
  | .ok .cont, z => exact z.elim
  | .ok (.ret u), ⟨v, H', os, bare, un, hok', r, z⟩ =>
    obtain rfl : v = .bl true := z
    obtain rfl : u = Value.bool true := r
    refine ⟨rfl, OldK.of_keep fun b o e => ?_, os, bare⟩
    cases q : H b with
    | none => exact un.keep b o e q (by simp [frs]) (by simp)
    | some u =>
      obtain ⟨ob, xs, rfl⟩ := frz b u q
      have before := (hok b _ q).1
      rw [e] at before
      rw [Option.some.inj before]
      exact (hok' b _ (un.frzs b ob _ q)).1
theorem walkG {l : PySem.W.OpenLaw} {n : Nat} {q : Program} {loose : List Str} {XP : (Str → Option Value) → Heap → Prop} {YP : World → Heap → Prop} {d : DefRec} (most : l.most = some n) (small : n ≤ sizeLine) (plain : d.params.defaults = []) (room : Room k callerA)
    (F : ∀ (w : World) (mg : Str → Option Value) (fa : Addr) (h : Heap), YP w h → h.Ns mainGlobals mg → mg d.name = some (.ref fa) → ∃ (K : PySem.W.Frag) (fd : FuncData) (sp : Sp), K.In h ∧ (∀ (s : Shared) (u : Value), BindsTo s fd ⟨[u], []⟩ [(x, u)]) ∧
      (∀ (H : Hp) (a : Addr) (ns : List Int), ns.length ≤ n → SqL K H a (ns.map V.int) → sp [.ref a] H (fun v _ => v = .bl true) fun _ _ _ => False) ∧ ∀ base : Heap, FnG l.prog w K mg base k fa fd [x] sp) :
    PySem.W.WalkO q loose XP YP l.row.toRowW d [] (fun f vs => PySem.call f vs) := by
  refine Att.attach_call most plain ?_
  intro w s₀ s₁ mg mb fa o pm cd doc a vs ns G Y ho hd hcd hmg obj inn len gens
  obtain ⟨K, fd, sp, kin, bd, told, fs⟩ := F w mg fa _ Y G.T.g hmg
  exact lawG kin G.T.g G.T.b G.T.builtins G.T.nolimit gens obj inn (Nat.le_trans len small) room fs bd fun H hS => told H a ns len hS
end
end WG
/-! WB: numbers with bounds, and their texts. -/
namespace WB
open PySem PySem.Spec PyProof.Rows L2 Wy WN WQ WS WC
/-- at most so great -/
def Bd (n : Nat) (i : Int) : Prop := i.natAbs < 10 ^ n
theorem Bd.iff {n : Nat} {i : Int} : Bd n i ↔ -(10 ^ n : Nat) < i ∧ i < (10 ^ n : Nat) := by
  unfold Bd
  omega
def DfB (n : Nat) (d : Df) : Prop := Bd n d.1 ∧ Bd n d.2.1 ∧ Bd n d.2.2
def spWtB : Sp := fun vs H Q _ => ∃ d : Int, vs = [.int d] ∧ ∀ r : Int, Bd 40 r → Q (.int r) H
def spDiffsB (K : PySem.W.Frag) : Sp := fun vs H Q _ => ∃ (a : Addr) (zs : List Int) (pl : Int) (n m : Nat), vs = [.ref a, .int pl, .int n, .int m] ∧ SqL K H a (zs.map V.int) ∧ n ≤ 100 ∧ m ≤ 1000 ∧
  ∀ p us H' ds, Same H H' → H p = none → H' p = some (.lst us) → TpAll H' us ((ds : List Df).map dfD) → ds.length = n → (∀ d ∈ ds, InR m d ∧ Bd 40 d.2.2) → Q (.ref p) H'
/-! ### texts of data -/
/-- data whose text is short: depth, weight -/
structure Rp (k n : Nat) (d : PyData) : Prop where
  sh : d.showable = true
  hd : d.hasDict = false
  lv : d.leavesShort 60 = true
  wt : d.weight ≤ n
  dp : d.depth ≤ k
theorem Rp.mono {k n k' n' : Nat} {d : PyData} (r : Rp k n d) (h : k ≤ k') (h' : n ≤ n') : Rp k' n' d := ⟨r.sh, r.hd, r.lv, Nat.le_trans r.wt h', Nat.le_trans r.dp h⟩
theorem rp_int {i : Int} (h : Bd 58 i) : Rp 0 200 (.int i) := by
  have hp : 10 ^ 58 ≤ 2 ^ 193 := by decide +kernel
  have h2 : i.natAbs.log2 < 193 := by
    by_cases h0 : i.natAbs = 0
    · rw [h0]
      decide
    · rw [Nat.log2_lt h0]
      exact Nat.lt_of_lt_of_le h hp
  refine ⟨?_, rfl, ?_, ?_, by simp [PyData.depth]⟩
  · simp only [PyData.showable, decide_eq_true_eq]
    omega
  · have e := PySem.int_text_length_le10 (k := 58) (by decide) h
    show decide ((Str.ofString (toString i)).length ≤ 60) = true
    rw [decide_eq_true_eq, PySem.ofString_length]
    omega
  · show (if i == 0 then 0 else i.natAbs.log2 + 1) ≤ 200
    split <;> omega
theorem all_parts {k n : Nat} : ∀ {ds : List PyData}, (∀ x ∈ ds, Rp k n x) → PyData.showableAll ds = true ∧ PyData.hasDictAll ds = false ∧ PyData.leavesShortAll 60 ds = true ∧ PyData.weightAll ds ≤ ds.length * (n + 1) ∧ PyData.depthAll ds ≤ k
  | [], _ => ⟨rfl, rfl, rfl, Nat.zero_le _, by simp [PyData.depthAll]⟩
  | x :: xs, h => by
    have h1 := h x List.mem_cons_self
    obtain ⟨a1, a2, a3, a4, a5⟩ := all_parts fun y hy => h y (List.mem_cons_of_mem _ hy)
    refine ⟨?_, ?_, ?_, ?_, ?_⟩
    · simp only [PyData.showableAll, h1.sh, a1, Bool.and_self]
    · simp only [PyData.hasDictAll, h1.hd, a2, Bool.or_self]
    · simp only [PyData.leavesShortAll, h1.lv, a3, Bool.and_self]
    · have := h1.wt
      simp only [PyData.weightAll, List.length_cons]
      rw [Nat.add_mul]
      omega
    · have := h1.dp
      simp only [PyData.depthAll]
      omega
theorem rp_tup {k n : Nat} {ds : List PyData} (h : ∀ x ∈ ds, Rp k n x) : Rp (k + 1) (ds.length * (n + 1)) (.tuple ds) := by
  obtain ⟨a1, a2, a3, a4, a5⟩ := all_parts h
  exact ⟨by simp only [PyData.showable, a1], by simp only [PyData.hasDict, a2], by simp only [PyData.leavesShort, a3], by simp only [PyData.weight]; exact a4, by simp only [PyData.depth]; omega⟩
theorem rp_lst {k n : Nat} {ds : List PyData} (h : ∀ x ∈ ds, Rp k n x) : Rp (k + 1) (ds.length * (n + 1)) (.list ds) := by
  obtain ⟨a1, a2, a3, a4, a5⟩ := all_parts h
  exact ⟨by simp only [PyData.showable, a1], by simp only [PyData.hasDict, a2], by simp only [PyData.leavesShort, a3], by simp only [PyData.weight]; exact a4, by simp only [PyData.depth]; omega⟩
theorem rp_len {k n : Nat} {d : PyData} (r : Rp k n d) (h : n ≤ 200000) : d.shown.length ≤ sizeLine := by
  have h1 := PyData.shown_le 60 (by decide) d r.lv
  have h2 := r.wt
  have hz : sizeLine = 16777216 := sizeLine_eq
  have h3 : (60 + 2) * d.weight ≤ 62 * 200000 := Nat.mul_le_mul (by decide) (by omega)
  omega
theorem rp_df {d : Df} (h : DfB 58 d) : Rp 1 603 (dfD d) := rp_tup (ds := [.int d.1, .int d.2.1, .int d.2.2]) (n := 200) fun x hx => by
  simp only [List.mem_cons, List.not_mem_nil, or_false] at hx
  rcases hx with rfl | rfl | rfl
  · exact rp_int h.1
  · exact rp_int h.2.1
  · exact rp_int h.2.2
/-- repr of data -/
theorem b_repr {K : PySem.W.Frag} {H : Hp} {Q : VK} {a : Addr} {d : PyData} {k n : Nat} (hd : Dp K H (.ref a) d) (r : Rp k n d) (hk : k ≤ 60) (hn : n ≤ 200000) (h : Q (.str d.shown) H) : rRepr K [.ref a] H Q :=
  ⟨a, d, rfl, hd, r.sh, r.hd, Nat.le_trans r.dp hk, rp_len r hn, h⟩
end WB
/-! WP: what the chains in a table of bounds mean. -/
namespace WP
open PySem PySem.Spec PyProof.Rows L2 Wy WN WQ WS WC WT
theorem room65 {k : Nat} {A : Around} (r : Room k A) : A.units + 65 < cLine := by
  have := r.un
  omega
/-- the nodes that a chain passes, from its start on -/
def nodes (u : Int) (es : List Df) : List Int := u :: es.map (·.2.1)
theorem path_at : ∀ {es : List Df} {u z s w : Int}, Path es u z s → w ∈ nodes u es → ∃ a b s1 s2, es = a ++ b ∧ Path a u w s1 ∧ Path b w z s2 ∧ s = s1 + s2
  | es, u, z, s, w, p, h => by
    induction p with
    | nil =>
      simp only [nodes, List.map_nil, List.mem_singleton] at h
      subst h
      exact ⟨[], [], 0, 0, rfl, .nil, .nil, rfl⟩
    | cons p ih =>
      rename_i r u v z c s
      simp only [nodes, List.map_cons, List.mem_cons] at h
      rcases h with rfl | h
      · exact ⟨[], _, 0, _, rfl, .nil, .cons p, (Int.zero_add _).symm⟩
      · have : w ∈ nodes v r := by
          unfold nodes
          rcases h with rfl | h
          · exact List.mem_cons_self
          · exact List.mem_cons_of_mem _ h
        obtain ⟨a, b, s1, s2, e, h1, h2, h3⟩ := ih this
        refine ⟨(u, v, c) :: a, b, c + s1, s2, by rw [e]; rfl, .cons h1, h2, by omega⟩
/-- a table and the differences that it was made of -/
structure Mean (n : Nat) (ds : List Df) (M : Tab) : Prop where
  sq : Sq2 M n
  cl : Cl n (bd M)
  inr : ∀ d ∈ ds, InR n d
  low : ∀ d ∈ ds, ∃ z, bd M d.1.toNat d.2.1.toNat = some z ∧ z ≤ d.2.2
  told : ∀ i j p, i ≤ n → j ≤ n → cell M i j = some p → (∀ k ∈ p.2, 0 ≤ k ∧ k < ds.length) ∧ Path (p.2.map (dsAt ds)) i j p.1 ∧ (nodes i (p.2.map (dsAt ds))).Nodup
theorem Mean.path {n : Nat} {ds : List Df} {M : Tab} (h : Mean n ds M) : ∀ {es : List Df} {u z s : Int}, Path es u z s → (∀ d ∈ es, d ∈ ds) → 0 ≤ u → u ≤ n → 0 ≤ z ∧ z ≤ n ∧ ∃ b, bd M u.toNat z.toNat = some b ∧ b ≤ s
  | _, u, _, _, .nil, _, h0, h1 => ⟨h0, h1, 0, h.cl.diag _ (by omega), Int.le_refl _⟩
  | _, u, z, _, .cons (v := v) (c := c) (s := s) (r := r) p, hm, h0, h1 => by
    have hd := hm (u, v, c) List.mem_cons_self
    obtain ⟨_, _, v0, v1⟩ := h.inr _ hd
    obtain ⟨x, ex, lx⟩ := h.low _ hd
    obtain ⟨z0, z1, y, ey, ly⟩ := h.path p (fun d hd => hm d (List.mem_cons_of_mem _ hd)) v0 v1
    have v0 : 0 ≤ v := v0
    have v1 : v ≤ n := v1
    have lx : x ≤ c := lx
    obtain ⟨b, eb, lb⟩ := h.cl.tri u.toNat v.toNat z.toNat x y (by omega) (by omega) (by omega) ex ey
    exact ⟨z0, z1, b, eb, by omega⟩
theorem dsAt_mem {ds : List Df} {k : Int} (h0 : 0 ≤ k) (h1 : k < ds.length) : dsAt ds k ∈ ds := by
  unfold dsAt
  rw [List.getD_eq_getElem?_getD, List.getElem?_eq_getElem (by omega)]
  exact List.getElem_mem _
theorem dsAt_app {ds es : List Df} {k : Int} (h0 : 0 ≤ k) (h1 : k < ds.length) : dsAt (ds ++ es) k = dsAt ds k := by
  unfold dsAt
  rw [List.getD_eq_getElem?_getD, List.getD_eq_getElem?_getD, List.getElem?_append_left (by omega)]
theorem map_app {ds es : List Df} {ns : List Int} (h : ∀ k ∈ ns, 0 ≤ k ∧ k < ds.length) : ns.map (dsAt (ds ++ es)) = ns.map (dsAt ds) := List.map_congr_left fun k hk => dsAt_app (h k hk).1 (h k hk).2
theorem Mean.start (n : Nat) : Mean n [] (tab0 n) := by
  refine ⟨tab0_sq n, tab0_cl n, fun _ h => (by cases h), fun _ h => (by cases h), fun i j p hi hj e => ?_⟩
  rw [tab0_cell hi hj] at e
  split at e
  · rename_i q
    cases e
    subst q
    exact ⟨fun _ h => (by cases h), Path.nil, by simp [nodes]⟩
  · cases e
/-- the chain that a tie brings passes each node once -/
theorem Mean.join {n : Nat} {ds : List Df} {M : Tab} (h : Mean n ds M) {d : Df} (hd : InR n d) (hr : ringOf M d = none) {i j : Nat} (hi : i ≤ n) (hj : j ≤ n) {p q : Int × List Int} (hp : cell M i d.1.toNat = some p) (hq : cell M d.2.1.toNat j = some q)
    (hn : ∀ o, cell M i j = some o → p.1 + d.2.2 + q.1 < o.1) :
    (∀ k ∈ p.2 ++ [(ds.length : Int)] ++ q.2, 0 ≤ k ∧ k < (ds ++ [d]).length) ∧ Path ((p.2 ++ [(ds.length : Int)] ++ q.2).map (dsAt (ds ++ [d]))) i j (p.1 + d.2.2 + q.1) ∧ (nodes i ((p.2 ++ [(ds.length : Int)] ++ q.2).map (dsAt (ds ++ [d])))).Nodup := by
  obtain ⟨h0, h1, h2, h3⟩ := hd
  obtain ⟨p1, p2, p3⟩ := h.told _ _ _ hi (by omega) hp
  obtain ⟨q1, q2, q3⟩ := h.told _ _ _ (by omega) hj hq
  rw [Int.toNat_of_nonneg h0] at p2
  rw [Int.toNat_of_nonneg h2] at q2 q3
  have last : dsAt (ds ++ [d]) (ds.length : Int) = d := by
    unfold dsAt
    rw [List.getD_eq_getElem?_getD, Int.toNat_natCast, List.getElem?_append_right (Nat.le_refl _), Nat.sub_self]
    rfl
  have e : (p.2 ++ [(ds.length : Int)] ++ q.2).map (dsAt (ds ++ [d])) = p.2.map (dsAt ds) ++ [d] ++ q.2.map (dsAt ds) := by
    rw [List.map_append, List.map_append, map_app p1, map_app q1, List.map_singleton, last]
  rw [e]
  have one : Path [d] d.1 d.2.1 d.2.2 := Path.one
  refine ⟨fun k hk => ?_, (p2.app one).app q2, ?_⟩
  · rw [List.length_append, List.length_singleton]
    simp only [List.mem_append, List.mem_singleton] at hk
    rcases hk with (hk | rfl) | hk
    · have := p1 k hk
      omega
    · omega
    · have := q1 k hk
      omega
  · have en : nodes i (p.2.map (dsAt ds) ++ [d] ++ q.2.map (dsAt ds)) = nodes i (p.2.map (dsAt ds)) ++ nodes d.2.1 (q.2.map (dsAt ds)) := by
      simp [nodes]
    rw [en, List.nodup_append]
    refine ⟨p3, q3, fun w hw v hv e => ?_⟩
    subst e
    obtain ⟨a1, b1, s1, s2, ea, pa, pb, es⟩ := path_at p2 hw
    obtain ⟨a2, b2, t1, t2, eb, qa, qb, et⟩ := path_at q2 hv
    have ma : ∀ x ∈ a1 ++ b1, x ∈ ds := fun x hx => by
      rw [← ea] at hx
      obtain ⟨k, hk, rfl⟩ := List.mem_map.mp hx
      exact dsAt_mem (p1 k hk).1 (p1 k hk).2
    have mb : ∀ x ∈ a2 ++ b2, x ∈ ds := fun x hx => by
      rw [← eb] at hx
      obtain ⟨k, hk, rfl⟩ := List.mem_map.mp hx
      exact dsAt_mem (q1 k hk).1 (q1 k hk).2
    obtain ⟨_, _, o, eo, lo⟩ := h.path (pa.app qb) (fun x hx => by
      rcases List.mem_append.mp hx with hx | hx
      · exact ma x (List.mem_append_left _ hx)
      · exact mb x (List.mem_append_right _ hx)) (by omega) (by omega)
    obtain ⟨_, _, r, er, lr⟩ := h.path (qa.app pb) (fun x hx => by
      rcases List.mem_append.mp hx with hx | hx
      · exact mb x (List.mem_append_left _ hx)
      · exact ma x (List.mem_append_right _ hx)) h2 h3
    have hring := ring_none hr r er
    rw [Int.toNat_natCast, Int.toNat_natCast] at eo
    obtain ⟨oc, ec, e1⟩ := Option.map_eq_some_iff.mp eo
    have := hn oc ec
    omega
/-- a cell of the table behind a tie: the old one, or the chain through the new difference -/
theorem tie_cell {M : Tab} {n k i j : Nat} {d : Df} {p : Int × List Int} (h : Sq2 M n) (hd : InR n d) (hi : i ≤ n) (hj : j ≤ n) (e : cell (tieM M d k) i j = some p) :
    cell M i j = some p ∨ ∃ a b, cell M i d.1.toNat = some a ∧ cell M d.2.1.toNat j = some b ∧ p = (a.1 + d.2.2 + b.1, a.2 ++ [(k : Int)] ++ b.2) ∧ ∀ o, cell M i j = some o → a.1 + d.2.2 + b.1 < o.1 := by
  obtain ⟨h0, h1, h2, h3⟩ := hd
  have key : cell (bring M d.1.toNat d.2.1.toNat (d.2.2, [(k : Int)])) i j = some p → cell M i j = some p ∨ ∃ a b, cell M i d.1.toNat = some a ∧ cell M d.2.1.toNat j = some b ∧ p = (a.1 + d.2.2 + b.1, a.2 ++ [(k : Int)] ++ b.2) ∧ ∀ o, cell M i j = some o → a.1 + d.2.2 + b.1 < o.1 := by
    intro e
    rw [bring_cell h (by omega) (by omega) hi hj] at e
    cases ea : cell M i d.1.toNat with
    | none =>
      rw [ea] at e
      exact .inl e
    | some a =>
      rw [ea] at e
      have e : shorter (cell M i j) (joinC a (d.2.2, [(k : Int)])) (cell M d.2.1.toNat j) = some p := e
      cases eb : cell M d.2.1.toNat j with
      | none =>
        rw [eb] at e
        exact .inl e
      | some b =>
        rw [eb] at e
        cases eo : cell M i j with
        | none =>
          rw [eo] at e
          exact .inr ⟨a, b, rfl, rfl, (Option.some.inj e).symm, fun o h => by cases h⟩
        | some o =>
          rw [eo, shorter_some] at e
          split at e
          · exact .inl e
          · rename_i q
            refine .inr ⟨a, b, rfl, rfl, (Option.some.inj e).symm, fun o' h => ?_⟩
            cases h
            simp only [joinC] at q
            omega
  unfold tieM at e
  cases eg : cell M d.1.toNat d.2.1.toNat with
  | none =>
    rw [eg] at e
    exact key e
  | some g =>
    rw [eg] at e
    have e : cell (if d.2.2 < g.1 then bring M d.1.toNat d.2.1.toNat (d.2.2, [(k : Int)]) else M) i j = some p := e
    split at e
    · exact key e
    · exact .inl e
/-- a tie without a ring keeps the meaning -/
theorem Mean.tie {n : Nat} {ds : List Df} {M : Tab} (h : Mean n ds M) {d : Df} (hd : InR n d) (hr : ringOf M d = none) : Mean n (ds ++ [d]) (tieM M d ds.length) := by
  refine ⟨tie_sq h.sq hd, tie_cl h.sq h.cl hd hr, fun x hx => ?_, fun x hx => ?_, fun i j p hi hj e => ?_⟩
  · rcases List.mem_append.mp hx with hx | hx
    · exact h.inr x hx
    · rw [List.mem_singleton.mp hx]
      exact hd
  · obtain ⟨h0, h1, h2, h3⟩ := hd
    rcases List.mem_append.mp hx with hx | hx
    · obtain ⟨x0, x1, x2, x3⟩ := h.inr x hx
      obtain ⟨z, ez, lz⟩ := h.low x hx
      rw [tie_bd h.sq h.cl ⟨h0, h1, h2, h3⟩ (by omega) (by omega), ez]
      obtain ⟨z', e', l'⟩ := relax_old (x := bd M x.1.toNat d.1.toNat) (y := bd M d.2.1.toNat x.2.1.toNat) (c := d.2.2) (o := z)
      exact ⟨z', e', by omega⟩
    · obtain rfl := List.mem_singleton.mp hx
      rw [tie_bd h.sq h.cl ⟨h0, h1, h2, h3⟩ (by omega) (by omega), h.cl.diag _ (by omega), h.cl.diag _ (by omega)]
      obtain ⟨z', e', l'⟩ := relax_new (b := bd M x.1.toNat x.2.1.toNat) (c := x.2.2) (p := 0) (q := 0)
      exact ⟨z', e', by omega⟩
  · rcases tie_cell h.sq hd hi hj e with e | ⟨a, b, ea, eb, rfl, hn⟩
    · obtain ⟨t1, t2, t3⟩ := h.told i j p hi hj e
      rw [map_app t1]
      refine ⟨fun k hk => ?_, t2, t3⟩
      have := t1 k hk
      rw [List.length_append]
      omega
    · exact h.join hd hr hi hj ea eb hn
/-- a chain that passes each node once is short -/
theorem Mean.short {n : Nat} {ds : List Df} {M : Tab} (h : Mean n ds M) : Short M n := by
  intro row hr c hc
  obtain ⟨i, hi, rfl⟩ := List.getElem_of_mem hr
  obtain ⟨j, hj, ej⟩ := List.getElem_of_mem hc
  have li := h.sq.2 _ (List.getElem_mem hi)
  have hi' : i ≤ n := by
    have := h.sq.1
    omega
  have hj' : j ≤ n := by omega
  have e : cell M i j = some c := by
    unfold cell
    rw [List.getD_eq_getElem?_getD (l := M), List.getElem?_eq_getElem hi]
    show (M[i]).getD j none = _
    rw [List.getD_eq_getElem?_getD, List.getElem?_eq_getElem hj, ej]
    rfl
  obtain ⟨t1, t2, t3⟩ := h.told i j c hi' hj' e
  have sub : ∀ x ∈ nodes i (c.2.map (dsAt ds)), x ∈ (List.range (n + 1)).map fun (k : Nat) => (k : Int) := fun x hx => by
    have : 0 ≤ x ∧ x ≤ n := by
      rcases List.mem_cons.mp hx with rfl | hx
      · omega
      · obtain ⟨d, hd, rfl⟩ := List.mem_map.mp hx
        obtain ⟨k, hk, rfl⟩ := List.mem_map.mp hd
        obtain ⟨_, _, r3, r4⟩ := h.inr _ (dsAt_mem (t1 k hk).1 (t1 k hk).2)
        exact ⟨r3, r4⟩
    exact List.mem_map.mpr ⟨x.toNat, List.mem_range.mpr (by omega), by omega⟩
  have le := List.Nodup.length_le_of_subset t3 sub
  simp only [nodes, List.length_cons, List.length_map, List.length_range] at le
  omega
/-- the ring that a tie closes is one -/
theorem Mean.ring {n : Nat} {ds : List Df} {M : Tab} (h : Mean n ds M) {d : Df} (hd : InR n d) {r : List Int} (hr : ringOf M d = some r) : ∃ s, csum (ds ++ [d]) ((ds.length : Int) :: r) = some (d.1, d.1, s) ∧ s < 0 := by
  obtain ⟨h0, h1, h2, h3⟩ := hd
  unfold ringOf at hr
  cases e : cell M d.2.1.toNat d.1.toNat with
  | none =>
    rw [e] at hr
    cases hr
  | some b =>
    rw [e] at hr
    have hr : (if d.2.2 + b.1 < 0 then some b.2 else none) = some r := hr
    split at hr
    · cases hr
      obtain ⟨t1, t2, t3⟩ := h.told _ _ b (by omega) (by omega) e
      rw [Int.toNat_of_nonneg h0, Int.toNat_of_nonneg h2] at t2
      have last : dsAt (ds ++ [d]) (ds.length : Int) = d := by
        unfold dsAt
        rw [List.getD_eq_getElem?_getD, Int.toNat_natCast, List.getElem?_append_right (Nat.le_refl _), Nat.sub_self]
        rfl
      refine ⟨d.2.2 + b.1, csum_path (fun k hk => ?_) ?_ (by simp), by assumption⟩
      · rw [List.length_append, List.length_singleton]
        rcases List.mem_cons.mp hk with rfl | hk
        · omega
        · have := t1 k hk
          omega
      · rw [List.map_cons, last, map_app t1]
        exact Path.cons t2
    · cases hr
end WP
namespace K17
open PySem PySem.Spec PyProof.Rows L2 Wy
/-! ### the text -/
def top (i : Nat) : Stmt := PySem.Challenge.pw_wayorring_k17_whole_ties.main.body.getD i (.Pass ⟨0, 0, 0, 0⟩)
def mth (i j : Nat) : Stmt := (C8.clsBody (top i)).getD j (.Pass ⟨0, 0, 0, 0⟩)
abbrev s_wall : Stmt := top 0
abbrev n_wall : List Str := ["k"]
theorem sc_wall : FnScope n_wall ["k"] (defScope s_wall) := C8.fnScope_by (by decide +kernel)
abbrev s_System___init : Stmt := mth 2 0
abbrev n_System___init : List Str := ["self", "many", "u", "v"]
theorem sc_System___init : FnScope n_System___init ["self", "many"] (defScope s_System___init) := C8.fnScope_by (by decide +kernel)
abbrev s_System_tie : Stmt := mth 2 1
abbrev n_System_tie : List Str := ["self", "difference", "u", "v", "c", "number", "back", "here"]
theorem sc_System_tie : FnScope n_System_tie ["self", "difference"] (defScope s_System_tie) := C8.fnScope_by (by decide +kernel)
abbrev s_System_bound : Stmt := mth 2 2
abbrev n_System_bound : List Str := ["self", "u", "v"]
theorem sc_System_bound : FnScope n_System_bound ["self", "u", "v"] (defScope s_System_bound) := C8.fnScope_by (by decide +kernel)
abbrev s_System_floors : Stmt := mth 2 3
abbrev n_System_floors : List Str := ["self", "known", "c", "chain"]
theorem sc_System_floors : FnScope n_System_floors ["self"] (defScope s_System_floors) := C8.fnScope_by (by decide +kernel)
abbrev s_System_least_values : Stmt := mth 2 4
abbrev n_System_least_values : List Str := ["self", "known", "c", "chain"]
theorem sc_System_least_values : FnScope n_System_least_values ["self"] (defScope s_System_least_values) := C8.fnScope_by (by decide +kernel)
abbrev s_System_twin : Stmt := mth 2 5
abbrev n_System_twin : List Str := ["self", "other"]
theorem sc_System_twin : FnScope n_System_twin ["self"] (defScope s_System_twin) := C8.fnScope_by (by decide +kernel)
abbrev s_System__bring_in : Stmt := mth 2 6
abbrev n_System__bring_in : List Str := ["self", "u", "v", "step", "behind", "known"]
theorem sc_System__bring_in : FnScope n_System__bring_in ["self", "u", "v", "step"] (defScope s_System__bring_in) := C8.fnScope_by (by decide +kernel)
abbrev s_row_with_step : Stmt := top 3
abbrev n_row_with_step : List Str := ["known", "before", "step", "behind", "through", "old", "rest"]
theorem sc_row_with_step : FnScope n_row_with_step ["known", "before", "step", "behind"] (defScope s_row_with_step) := C8.fnScope_by (by decide +kernel)
abbrev s_joined : Stmt := top 4
abbrev n_joined : List Str := ["first", "second"]
theorem sc_joined : FnScope n_joined ["first", "second"] (defScope s_joined) := C8.fnScope_by (by decide +kernel)
abbrev s_shorter : Stmt := top 5
abbrev n_shorter : List Str := ["old", "through", "rest"]
theorem sc_shorter : FnScope n_shorter ["old", "through", "rest"] (defScope s_shorter) := C8.fnScope_by (by decide +kernel)
abbrev s_law_cell : Stmt := top 7
abbrev n_law_cell : List Str := ["script", "k"]
theorem sc_law_cell : FnScope n_law_cell ["script", "k"] (defScope s_law_cell) := C8.fnScope_by (by decide +kernel)
abbrev s_law_draws : Stmt := top 8
abbrev n_law_draws : List Str := ["script", "place", "sizes", "primes", "cell", "rest", "draws", "k", "first", "mixed"]
theorem sc_law_draws : FnScope n_law_draws ["script", "place", "sizes"] (defScope s_law_draws) := C8.fnScope_by (by decide +kernel)
abbrev s_law_weight : Stmt := top 9
abbrev n_law_weight : List Str := ["draw", "kind", "rest"]
theorem sc_law_weight : FnScope n_law_weight ["draw"] (defScope s_law_weight) := C8.fnScope_by (by decide +kernel)
abbrev s_law_is_integer : Stmt := top 10
abbrev n_law_is_integer : List Str := ["value"]
theorem sc_law_is_integer : FnScope n_law_is_integer ["value"] (defScope s_law_is_integer) := C8.fnScope_by (by decide +kernel)
abbrev s_law_sum : Stmt := top 11
abbrev n_law_sum : List Str := ["differences", "numbers", "total", "k"]
theorem sc_law_sum : FnScope n_law_sum ["differences", "numbers"] (defScope s_law_sum) := C8.fnScope_by (by decide +kernel)
abbrev s_law_kept : Stmt := top 12
abbrev n_law_kept : List Str := ["differences", "values", "level", "u", "v", "c"]
theorem sc_law_kept : FnScope n_law_kept ["differences", "values"] (defScope s_law_kept) := C8.fnScope_by (by decide +kernel)
abbrev s_law_reached : Stmt := top 13
abbrev n_law_reached : List Str := ["differences", "many", "reached", "step", "before", "u", "v", "c"]
theorem sc_law_reached : FnScope n_law_reached ["differences", "many"] (defScope s_law_reached) := C8.fnScope_by (by decide +kernel)
abbrev s_law_are_numbers : Stmt := top 14
abbrev n_law_are_numbers : List Str := ["value", "number"]
theorem sc_law_are_numbers : FnScope n_law_are_numbers ["value"] (defScope s_law_are_numbers) := C8.fnScope_by (by decide +kernel)
abbrev s_law_is_ring : Stmt := top 15
abbrev n_law_is_ring : List Str := ["differences", "ring", "total"]
theorem sc_law_is_ring : FnScope n_law_is_ring ["differences", "ring"] (defScope s_law_is_ring) := C8.fnScope_by (by decide +kernel)
abbrev s_law_is_least : Stmt := top 16
abbrev n_law_is_least : List Str := ["system", "differences", "many", "floors", "least", "k", "kept", "value"]
theorem sc_law_is_least : FnScope n_law_is_least ["system", "differences", "many"] (defScope s_law_is_least) := C8.fnScope_by (by decide +kernel)
abbrev s_law_fits : Stmt := top 17
abbrev n_law_fits : List Str := ["system", "differences", "many", "twin", "wide", "k"]
theorem sc_law_fits : FnScope n_law_fits ["system", "differences", "many"] (defScope s_law_fits) := C8.fnScope_by (by decide +kernel)
abbrev s_law_ranges : Stmt := top 18
abbrev n_law_ranges : List Str := ["script", "many", "k", "draws", "ranges", "low", "high"]
theorem sc_law_ranges : FnScope n_law_ranges ["script", "many"] (defScope s_law_ranges) := C8.fnScope_by (by decide +kernel)
abbrev s_law_more : Stmt := top 19
abbrev n_law_more : List Str := ["script", "place", "count", "many", "ranges", "values", "k", "draws", "kinds", "lows", "highs", "more", "u", "v", "near", "c", "low", "high"]
theorem sc_law_more : FnScope n_law_more ["script", "place", "count", "many", "ranges", "values"] (defScope s_law_more) := C8.fnScope_by (by decide +kernel)
abbrev s_law_goes : Stmt := top 20
abbrev n_law_goes : List Str := ["system", "differences", "more", "many", "difference", "ring"]
theorem sc_law_goes : FnScope n_law_goes ["system", "differences", "more", "many"] (defScope s_law_goes) := C8.fnScope_by (by decide +kernel)
abbrev s_law : Stmt := top 21
abbrev n_law : List Str := ["script", "shape", "many", "ranges", "path", "k", "values", "inside", "begin", "powers", "system", "differences", "told", "twin", "twins", "ended"]
theorem sc_law : FnScope n_law ["script"] (defScope s_law) := C8.fnScope_by (by decide +kernel)
/-! ### what the top has made -/
structure Tx (K : PySem.W.Frag) (mg : Str → Option Value) : Prop where
  d_wall : DefOk K mg "_wall" s_wall
  d_row_with_step : DefOk K mg "_row_with_step" s_row_with_step
  d_joined : DefOk K mg "_joined" s_joined
  d_shorter : DefOk K mg "_shorter" s_shorter
  d_law_cell : DefOk K mg "_law_cell" s_law_cell
  d_law_draws : DefOk K mg "_law_draws" s_law_draws
  d_law_weight : DefOk K mg "_law_weight" s_law_weight
  d_law_is_integer : DefOk K mg "_law_is_integer" s_law_is_integer
  d_law_sum : DefOk K mg "_law_sum" s_law_sum
  d_law_kept : DefOk K mg "_law_kept" s_law_kept
  d_law_reached : DefOk K mg "_law_reached" s_law_reached
  d_law_are_numbers : DefOk K mg "_law_are_numbers" s_law_are_numbers
  d_law_is_ring : DefOk K mg "_law_is_ring" s_law_is_ring
  d_law_is_least : DefOk K mg "_law_is_least" s_law_is_least
  d_law_fits : DefOk K mg "_law_fits" s_law_fits
  d_law_ranges : DefOk K mg "_law_ranges" s_law_ranges
  d_law_more : DefOk K mg "_law_more" s_law_more
  d_law_goes : DefOk K mg "_law_goes" s_law_goes
  d_law : DefOk K mg "law" s_law
  c_System : Cls K (He.ga K "System")
  a_System_many : NoAttr K (He.ga K "System") "many"
  a_System_differences : NoAttr K (He.ga K "System") "differences"
  a_System__table : NoAttr K (He.ga K "System") "_table"
  d_System___init : WO.MakOk K mg "System" "System.__init__" s_System___init
  d_System_tie : WO.MetOk K "System" "tie" "System.tie" s_System_tie
  d_System_bound : WO.MetOk K "System" "bound" "System.bound" s_System_bound
  d_System_floors : WO.MetOk K "System" "floors" "System.floors" s_System_floors
  d_System_least_values : WO.MetOk K "System" "least_values" "System.least_values" s_System_least_values
  d_System_twin : WO.MetOk K "System" "twin" "System.twin" s_System_twin
  d_System__bring_in : WO.MetOk K "System" "_bring_in" "System._bring_in" s_System__bring_in
  z_abs : mg "abs" = none
  z_all : mg "all" = none
  z_bool : mg "bool" = none
  z_int : mg "int" = none
  z_isinstance : mg "isinstance" = none
  z_len : mg "len" = none
  z_list : mg "list" = none
  z_max : mg "max" = none
  z_range : mg "range" = none
  z_repr : mg "repr" = none
  z_tuple : mg "tuple" = none
  z_zip : mg "zip" = none
/-! ### the head -/
def fn : List He.DefD := [⟨("_wall", none), "_wall", "_wall", defArgs s_wall, defBody s_wall, defScope s_wall, [], []⟩, ⟨("_row_with_step", none), "_row_with_step", "_row_with_step", defArgs s_row_with_step, defBody s_row_with_step, defScope s_row_with_step, [], []⟩, ⟨("_joined", none), "_joined", "_joined", defArgs s_joined, defBody s_joined, defScope s_joined, [], []⟩, ⟨("_shorter", none), "_shorter", "_shorter", defArgs s_shorter, defBody s_shorter, defScope s_shorter, [], []⟩, ⟨("_law_cell", none), "_law_cell", "_law_cell", defArgs s_law_cell, defBody s_law_cell, defScope s_law_cell, [], []⟩, ⟨("_law_draws", none), "_law_draws", "_law_draws", defArgs s_law_draws, defBody s_law_draws, defScope s_law_draws, [], []⟩, ⟨("_law_weight", none), "_law_weight", "_law_weight", defArgs s_law_weight, defBody s_law_weight, defScope s_law_weight, [], []⟩, ⟨("_law_is_integer", none), "_law_is_integer", "_law_is_integer", defArgs s_law_is_integer, defBody s_law_is_integer, defScope s_law_is_integer, [], []⟩, ⟨("_law_sum", none), "_law_sum", "_law_sum", defArgs s_law_sum, defBody s_law_sum, defScope s_law_sum, [], []⟩, ⟨("_law_kept", none), "_law_kept", "_law_kept", defArgs s_law_kept, defBody s_law_kept, defScope s_law_kept, [], []⟩, ⟨("_law_reached", none), "_law_reached", "_law_reached", defArgs s_law_reached, defBody s_law_reached, defScope s_law_reached, [], []⟩, ⟨("_law_are_numbers", none), "_law_are_numbers", "_law_are_numbers", defArgs s_law_are_numbers, defBody s_law_are_numbers, defScope s_law_are_numbers, [], []⟩, ⟨("_law_is_ring", none), "_law_is_ring", "_law_is_ring", defArgs s_law_is_ring, defBody s_law_is_ring, defScope s_law_is_ring, [], []⟩, ⟨("_law_is_least", none), "_law_is_least", "_law_is_least", defArgs s_law_is_least, defBody s_law_is_least, defScope s_law_is_least, [], []⟩, ⟨("_law_fits", none), "_law_fits", "_law_fits", defArgs s_law_fits, defBody s_law_fits, defScope s_law_fits, [], []⟩, ⟨("_law_ranges", none), "_law_ranges", "_law_ranges", defArgs s_law_ranges, defBody s_law_ranges, defScope s_law_ranges, [], []⟩, ⟨("_law_more", none), "_law_more", "_law_more", defArgs s_law_more, defBody s_law_more, defScope s_law_more, [], []⟩, ⟨("_law_goes", none), "_law_goes", "_law_goes", defArgs s_law_goes, defBody s_law_goes, defScope s_law_goes, [], []⟩, ⟨("law", none), "law", "law", defArgs s_law, defBody s_law, defScope s_law, [], []⟩, ⟨("System", some "__init__"), "__init__", "System.__init__", defArgs s_System___init, defBody s_System___init, defScope s_System___init, [], []⟩, ⟨("System", some "tie"), "tie", "System.tie", defArgs s_System_tie, defBody s_System_tie, defScope s_System_tie, [], []⟩, ⟨("System", some "bound"), "bound", "System.bound", defArgs s_System_bound, defBody s_System_bound, defScope s_System_bound, [], []⟩, ⟨("System", some "floors"), "floors", "System.floors", defArgs s_System_floors, defBody s_System_floors, defScope s_System_floors, [], []⟩, ⟨("System", some "least_values"), "least_values", "System.least_values", defArgs s_System_least_values, defBody s_System_least_values, defScope s_System_least_values, [], []⟩, ⟨("System", some "twin"), "twin", "System.twin", defArgs s_System_twin, defBody s_System_twin, defScope s_System_twin, [], []⟩, ⟨("System", some "_bring_in"), "_bring_in", "System._bring_in", defArgs s_System__bring_in, defBody s_System__bring_in, defScope s_System__bring_in, [], []⟩]
def fa : List He.Fa := [.glo "_wall", .glo "_row_with_step", .glo "_joined", .glo "_shorter", .glo "_law_cell", .glo "_law_draws", .glo "_law_weight", .glo "_law_is_integer", .glo "_law_sum", .glo "_law_kept", .glo "_law_reached", .glo "_law_are_numbers", .glo "_law_is_ring", .glo "_law_is_least", .glo "_law_fits", .glo "_law_ranges", .glo "_law_more", .glo "_law_goes", .glo "law", .free "abs", .free "all", .free "bool", .free "int", .free "isinstance", .free "len", .free "list", .free "max", .free "range", .free "repr", .free "tuple", .free "zip", .glo "System", .cls "System", .noat "System" "many", .noat "System" "differences", .noat "System" "_table", .mkr "System", .meth "System" "tie", .meth "System" "bound", .meth "System" "floors", .meth "System" "least_values", .meth "System" "twin", .meth "System" "_bring_in"]
def ts : List He.Tab := []
def ex (K : PySem.W.Frag) : Bool := true
abbrev R : PySem.W.OpenRow := PySem.W.OpenLaw.row PySem.Challenge.rw_wayorring_k17_whole_ties
abbrev hk : PySem.W.Hook := He.hookX 6 fa fn ts [] ex
def ob (s : PySem.W.SharedT) : He.AlX := He.obsX 6 fa fn ts [] ex (HandSHeadRun.getT s)
theorem ob_eq (s : PySem.W.SharedT) : ob s = hk.obs s.abs := He.obsX_eq (HandSHeadRun.getT_eq s)
def loose : List Str := (["_wall", "System", "_row_with_step", "_joined", "_shorter", "_law_cell", "_law_draws", "_law_weight", "_law_is_integer", "_law_sum", "_law_kept", "_law_reached", "_law_are_numbers", "_law_is_ring", "_law_is_least", "_law_fits", "_law_ranges", "_law_more", "_law_goes"] : List Str)
set_option maxHeartbeats 0 in
theorem run (w : World) : HandSHeadRun.RunEq R (PySem.W.view R.prog [21]) hk ob 20000 loose w := by
  intro os
  kernel_rfl
theorem tx_of {w : World} {K : PySem.W.Frag} {h h2 : Heap} {mg : Str → Option Value} (X : K.In h) (G : h.Ns mainGlobals mg) (c2 : He.SaysX fa fn ts [] ex w h2 K) : Tx K mg := by
  have c := c2.t.d
  have m : ex K = true := c2.more
  refine ⟨?_, ?_, ?_, ?_, ?_, ?_, ?_, ?_, ?_, ?_, ?_, ?_, ?_, ?_, ?_, ?_, ?_, ?_, ?_, ?_, ?_, ?_, ?_, ?_, ?_, ?_, ?_, ?_, ?_, ?_, ?_, ?_, ?_, ?_, ?_, ?_, ?_, ?_, ?_, ?_, ?_, ?_⟩
  · obtain ⟨fd, F⟩ := c.def_ 0 rfl
    exact ⟨_, fd, F, He.glo_ok X G (c.fact 0 (f := .glo "_wall") rfl)⟩
  · obtain ⟨fd, F⟩ := c.def_ 1 rfl
    exact ⟨_, fd, F, He.glo_ok X G (c.fact 1 (f := .glo "_row_with_step") rfl)⟩
  · obtain ⟨fd, F⟩ := c.def_ 2 rfl
    exact ⟨_, fd, F, He.glo_ok X G (c.fact 2 (f := .glo "_joined") rfl)⟩
  · obtain ⟨fd, F⟩ := c.def_ 3 rfl
    exact ⟨_, fd, F, He.glo_ok X G (c.fact 3 (f := .glo "_shorter") rfl)⟩
  · obtain ⟨fd, F⟩ := c.def_ 4 rfl
    exact ⟨_, fd, F, He.glo_ok X G (c.fact 4 (f := .glo "_law_cell") rfl)⟩
  · obtain ⟨fd, F⟩ := c.def_ 5 rfl
    exact ⟨_, fd, F, He.glo_ok X G (c.fact 5 (f := .glo "_law_draws") rfl)⟩
  · obtain ⟨fd, F⟩ := c.def_ 6 rfl
    exact ⟨_, fd, F, He.glo_ok X G (c.fact 6 (f := .glo "_law_weight") rfl)⟩
  · obtain ⟨fd, F⟩ := c.def_ 7 rfl
    exact ⟨_, fd, F, He.glo_ok X G (c.fact 7 (f := .glo "_law_is_integer") rfl)⟩
  · obtain ⟨fd, F⟩ := c.def_ 8 rfl
    exact ⟨_, fd, F, He.glo_ok X G (c.fact 8 (f := .glo "_law_sum") rfl)⟩
  · obtain ⟨fd, F⟩ := c.def_ 9 rfl
    exact ⟨_, fd, F, He.glo_ok X G (c.fact 9 (f := .glo "_law_kept") rfl)⟩
  · obtain ⟨fd, F⟩ := c.def_ 10 rfl
    exact ⟨_, fd, F, He.glo_ok X G (c.fact 10 (f := .glo "_law_reached") rfl)⟩
  · obtain ⟨fd, F⟩ := c.def_ 11 rfl
    exact ⟨_, fd, F, He.glo_ok X G (c.fact 11 (f := .glo "_law_are_numbers") rfl)⟩
  · obtain ⟨fd, F⟩ := c.def_ 12 rfl
    exact ⟨_, fd, F, He.glo_ok X G (c.fact 12 (f := .glo "_law_is_ring") rfl)⟩
  · obtain ⟨fd, F⟩ := c.def_ 13 rfl
    exact ⟨_, fd, F, He.glo_ok X G (c.fact 13 (f := .glo "_law_is_least") rfl)⟩
  · obtain ⟨fd, F⟩ := c.def_ 14 rfl
    exact ⟨_, fd, F, He.glo_ok X G (c.fact 14 (f := .glo "_law_fits") rfl)⟩
  · obtain ⟨fd, F⟩ := c.def_ 15 rfl
    exact ⟨_, fd, F, He.glo_ok X G (c.fact 15 (f := .glo "_law_ranges") rfl)⟩
  · obtain ⟨fd, F⟩ := c.def_ 16 rfl
    exact ⟨_, fd, F, He.glo_ok X G (c.fact 16 (f := .glo "_law_more") rfl)⟩
  · obtain ⟨fd, F⟩ := c.def_ 17 rfl
    exact ⟨_, fd, F, He.glo_ok X G (c.fact 17 (f := .glo "_law_goes") rfl)⟩
  · obtain ⟨fd, F⟩ := c.def_ 18 rfl
    exact ⟨_, fd, F, He.glo_ok X G (c.fact 18 (f := .glo "law") rfl)⟩
  · exact He.cls_ok (c.fact 32 (f := .cls "System") rfl)
  · exact He.noat_ok (c.fact 33 (f := .noat "System" "many") rfl)
  · exact He.noat_ok (c.fact 34 (f := .noat "System" "differences") rfl)
  · exact He.noat_ok (c.fact 35 (f := .noat "System" "_table") rfl)
  · obtain ⟨fd, F⟩ := c.def_ 19 rfl
    exact ⟨_, fd, F, He.mkr_ok (c.fact 36 (f := .mkr "System") rfl), He.glo_ok X G (c.fact 31 (f := .glo "System") rfl)⟩
  · obtain ⟨fd, F⟩ := c.def_ 20 rfl
    exact ⟨_, fd, F, He.meth_ok (c.fact 37 (f := .meth "System" "tie") rfl)⟩
  · obtain ⟨fd, F⟩ := c.def_ 21 rfl
    exact ⟨_, fd, F, He.meth_ok (c.fact 38 (f := .meth "System" "bound") rfl)⟩
  · obtain ⟨fd, F⟩ := c.def_ 22 rfl
    exact ⟨_, fd, F, He.meth_ok (c.fact 39 (f := .meth "System" "floors") rfl)⟩
  · obtain ⟨fd, F⟩ := c.def_ 23 rfl
    exact ⟨_, fd, F, He.meth_ok (c.fact 40 (f := .meth "System" "least_values") rfl)⟩
  · obtain ⟨fd, F⟩ := c.def_ 24 rfl
    exact ⟨_, fd, F, He.meth_ok (c.fact 41 (f := .meth "System" "twin") rfl)⟩
  · obtain ⟨fd, F⟩ := c.def_ 25 rfl
    exact ⟨_, fd, F, He.meth_ok (c.fact 42 (f := .meth "System" "_bring_in") rfl)⟩
  · exact He.free_ok X G (c.fact 19 (f := .free "abs") rfl)
  · exact He.free_ok X G (c.fact 20 (f := .free "all") rfl)
  · exact He.free_ok X G (c.fact 21 (f := .free "bool") rfl)
  · exact He.free_ok X G (c.fact 22 (f := .free "int") rfl)
  · exact He.free_ok X G (c.fact 23 (f := .free "isinstance") rfl)
  · exact He.free_ok X G (c.fact 24 (f := .free "len") rfl)
  · exact He.free_ok X G (c.fact 25 (f := .free "list") rfl)
  · exact He.free_ok X G (c.fact 26 (f := .free "max") rfl)
  · exact He.free_ok X G (c.fact 27 (f := .free "range") rfl)
  · exact He.free_ok X G (c.fact 28 (f := .free "repr") rfl)
  · exact He.free_ok X G (c.fact 29 (f := .free "tuple") rfl)
  · exact He.free_ok X G (c.fact 30 (f := .free "zip") rfl)
def spLaw (K : PySem.W.Frag) : Sp := fun vs H Q _ => ∃ (a : Addr) (ns : List Int), vs = [.ref a] ∧ SqL K H a (ns.map V.int) ∧ ns.length ≤ 63 ∧ ∀ H', Q (.bl true) H'
end K17
namespace K17
open PySem PySem.Spec PyProof.Rows L2 Wy WN

-- WIDE
section
variable {P : Program} {w : World} {K : PySem.W.Frag} {mg : Str → Option Value} {base : Heap}
theorem k_law_cell (T : Tx K mg) : C8.Cal P w K mg base 1 "_law_cell" (spCellN K) [] := by
  refine cal_of (N := n_law_cell) T.d_law_cell sc_law_cell (fun _ _ F => F.bindsN fun _ _ _ _ _ _ us hl => match us, hl with | [_, _], _ => rfl) (fun vs H Q E h => ?_) (fun f cdv A outer s H vs Q E hr h => ?_)
  · obtain ⟨a, ns, k, rfl, _⟩ := h
    rfl
  · obtain ⟨a, ns, k, rfl, hS, q⟩ := h
    refine ⟨_, (pss_cons (ps_if (pt_cmpR op_gt (pe_callB (call_len2 : CallR _ _ (rLn K)) (by rfl) T.z_len (by decide +kernel) (pa_cons (pv 0) pa_nil)) pe_int (nomark _)) (pss_one (ps_ret (pe_ix (ix_seq : IxR _ (rIx K)) (pv 0) (pe_op op_mod (pe_callTy call_int2 (by rfl) T.z_int (by decide +kernel) (pa_cons (pv 1) pa_nil)) (pe_callB (call_len2 : CallR _ _ (rLn K)) (by rfl) T.z_len (by decide +kernel) (pa_cons (pv 0) pa_nil))) (fun _ _ => rfl)))) pss_nil) (pss_one (ps_ret pe_int))), ?_⟩
    walk_at "ss"
    refine b_lenL hS ?_
    walk_at "ss"
    refine iteD (fun e => ?_) (fun e => ?_)
    · rw [List.length_map] at e
      walk_at "ss"
      refine b_lenL hS ?_
      rw [List.length_map]
      refine o_modG e fun r r0 r1 => ?_
      refine ix_int hS r0 r1 fun x _ => ?_
      exact q x
    · walk_at "ss"
      exact q 0
theorem k_law_draws (T : Tx K mg) : C8.Cal P w K mg base 2 "_law_draws" (spDraws K) [] := by
  refine cal_of (N := n_law_draws) T.d_law_draws sc_law_draws (fun _ _ F => F.bindsN fun _ _ _ _ _ _ us hl => match us, hl with | [_, _, _], _ => rfl) (fun vs H Q E h => ?_) (fun f cdv A outer s H vs Q E hr h => ?_)
  · obtain ⟨a, b, ns, ss, k, rfl, _⟩ := h
    rfl
  · obtain ⟨a, b, ns, ss, k, rfl, hS, hB, hz, q⟩ := h
    refine ⟨_, (pss_cons (ps_asg (pe_lst (pa_cons pe_int (pa_cons pe_int (pa_cons pe_int (pa_cons pe_int (pa_cons pe_int (pa_cons pe_int (pa_cons pe_int (pa_cons pe_int pa_nil))))))))) (pg_name (i := 3) sc_law_draws.nd rfl (Or.inl rfl))) (pss_cons (ps_asg (pe_callB call_abs2 (by rfl) T.z_abs (by decide +kernel) (pa_cons (C8.pe_c (k_law_cell T) hr (by first | decide | omega) (by rfl) (pa_cons (pv 0) (pa_cons (pv 1) pa_nil))) pa_nil)) (pg_name (i := 4) sc_law_draws.nd rfl (Or.inl rfl))) (pss_cons (ps_asg pe_int (pg_name (i := 5) sc_law_draws.nd rfl (Or.inl rfl))) (C8.pss_cut (ps_if (pt_cmpR op_ge (pv 4) (pe_op op_pow pe_int pe_int) (nomark _)) (pss_one (ps_asg (pv 4) (pg_name (i := 5) sc_law_draws.nd rfl (Or.inl rfl)))) pss_nil) (pss_cons (ps_asg (pe_lst pa_nil) (pg_name (i := 6) sc_law_draws.nd rfl (Or.inl rfl))) (pss_cons (ps_for PassesOwn.never rfl (pi_range1 (by rfl) T.z_range (pa_cons (pe_callB (call_len2 : CallR _ _ (rLn K)) (by rfl) T.z_len (by decide +kernel) (pa_cons (pv 2) pa_nil)) pa_nil)) (pg_name (i := 7) sc_law_draws.nd rfl (Or.inl rfl)) (pss_one (ps_if (pt_cmpR op_gt (pv 5) pe_int (nomark _)) (pss_cons (ps_expr (pe_bm PySem.F.plainAttrs_list PySem.F.slot_list_append PySem.F.type_list_append mt_append (pv 6) (pa_cons (pe_op op_mod (pe_callTy call_int2 (by rfl) T.z_int (by decide +kernel) (pa_cons (pv 5) pa_nil)) (pe_ix (ix_seq : IxR _ (rIx K)) (pv 2) (pv 7) (fun _ _ => rfl))) pa_nil) : PE _ _ (tBM K _ _ _ _))) (pss_one (ps_asg (pe_op op_fdivW (pv 5) (pe_ix (ix_seq : IxR _ (rIx K)) (pv 2) (pv 7) (fun _ _ => rfl))) (pg_name (i := 5) sc_law_draws.nd rfl (Or.inl rfl))))) (pss_cons (ps_asg (pe_op op_mod (pe_callTy call_int2 (by rfl) T.z_int (by decide +kernel) (pa_cons (pe_op op_add3 (pe_op op_mul2 (pe_op op_add3 (pe_op op_add3 (pe_op op_add3 (pv 4) pe_int) (pe_op op_mul2 pe_int (pv 1))) (pv 7)) pe_int) (pe_op op_mul2 pe_int (pv 7))) pa_nil)) (pe_ix (ix_seq : IxR _ (rIx K)) (pv 3) (pe_op op_mod (pv 7) pe_int) (fun _ _ => rfl))) (pg_name (i := 8) sc_law_draws.nd rfl (Or.inl rfl))) (pss_cons (ps_asg (pe_op op_mod (pe_callTy call_int2 (by rfl) T.z_int (by decide +kernel) (pa_cons (pe_op op_add3 (pe_op op_add3 (pe_op op_mul2 (pv 8) (pv 8)) (pe_op op_mul2 pe_int (pv 7))) (pv 1)) pa_nil)) (pe_ix (ix_seq : IxR _ (rIx K)) (pv 3) (pe_op op_mod (pe_op op_add3 (pv 7) pe_int) pe_int) (fun _ _ => rfl))) (pg_name (i := 9) sc_law_draws.nd rfl (Or.inl rfl))) (pss_cons (ps_asg (pe_op op_mod (pe_callTy call_int2 (by rfl) T.z_int (by decide +kernel) (pa_cons (pe_op op_add3 (pe_op op_add3 (pe_op op_mul2 (pv 9) pe_int) (pe_op op_mul2 (pv 8) pe_int)) (pv 7)) pa_nil)) (pe_ix (ix_seq : IxR _ (rIx K)) (pv 3) (pe_op op_mod (pe_op op_add3 (pv 7) pe_int) pe_int) (fun _ _ => rfl))) (pg_name (i := 9) sc_law_draws.nd rfl (Or.inl rfl))) (pss_one (ps_expr (pe_bm PySem.F.plainAttrs_list PySem.F.slot_list_append PySem.F.type_list_append mt_append (pv 6) (pa_cons (pe_op op_mod (pe_callTy call_int2 (by rfl) T.z_int (by decide +kernel) (pa_cons (pe_op op_fdivW (pv 9) pe_int) pa_nil)) (pe_ix (ix_seq : IxR _ (rIx K)) (pv 2) (pv 7) (fun _ _ => rfl))) pa_nil) : PE _ _ (tBM K _ _ _ _)))))))))) (pss_one (ps_ret (pv 6))))))))), ?_⟩
    walk_at "ss"
    refine n_obj (lz (Nat.le_of_ble_eq_true rfl)) fun pr H1 np s1 e1 => ?_
    walk_at "ss"
    refine ⟨a, ns, k, rfl, s1.seq hS, fun cell => ?_⟩
    walk_at "ss"
    refine s_cut (fun σ H' => ∃ rest : Int, σ = [some (.ref a), some (.int k), some (.ref b), some (.ref pr), some (.int (if cell < 0 then -cell else cell)), some (.int rest), none, none, none, none] ∧ H1 = H') ?_ (fun σ H' p => ?_)
    · walk_at "ss"
      refine iteD (fun e => ?_) (fun e => ?_)
      · walk_at "ss"
        exact ⟨_, rfl, rfl⟩
      · walk_at "ss"
        exact ⟨_, rfl, rfl⟩
    obtain ⟨rest, rfl, rfl⟩ := p
    generalize (if cell < 0 then -cell else cell) = cell
    walk_at "ss"
    refine n_obj (lz (Nat.le_of_ble_eq_true rfl)) fun d H2 nd s2 e2 => ?_
    have hB2 := (s1.trans s2).seq hB
    walk_at "ss"
    refine b_lenL hB2 ?_
    have hl := hz.1
    walk_at "ss"
    rw [List.length_map]
    refine k_r1 (by omega) (by omega) ?_
    refine f_range (fun i σ H' => ∃ x y z, ∃ rest : Int, ∃ ds : List Int, σ = [some (.ref a), some (.int k), some (.ref b), some (.ref pr), some (.int cell), some (.int rest), some (.ref d), x, y, z] ∧ Same H1 H' ∧ H' d = some (.lst (ds.map V.int)) ∧ Dr ds (ss.take i))
      ⟨_, _, _, _, [], rfl, s2, e2, .nil⟩ (fun i σ H3 hi p => ?_) (fun σ H3 p => ?_)
    · obtain ⟨x, y, z, rest, ds, rfl, s3, e3, hd⟩ := p
      have hi : i < ss.length := hi
      have gi := List.getElem?_eq_getElem hi
      obtain ⟨z0, z1⟩ := hz.2 _ (List.getElem_mem hi)
      have hB3 := (s1.trans s3).seq hB
      have ep := s3 _ _ e1
      have ln : (ds.map V.int).length < sizeLine := by
        have := hd.len
        rw [List.length_take] at this
        exact small1000' (by rw [List.length_map]; omega)
      have snoc : ∀ d' : Int, 0 ≤ d' → d' < ss[i] → Dr (ds ++ [d']) (ss.take (i + 1)) := fun d' h0 h1 => by
        rw [List.take_succ, gi]
        exact hd.snoc h0 h1
      have gg : (ss.map V.int)[i]? = some (.int ss[i]) := by rw [List.getElem?_map, gi]; rfl
      rw [Int.zero_add]
      walk_at "ss"
      refine iteD (fun e => ?_) (fun e => ?_)
      · walk_at "ss"
        refine m_ty (lst_of e3) ?_
        walk_at "ss"
        refine o_ixL hB3 (atI_nat gg) ?_
        refine o_modG z0 fun r r0 r1 => ?_
        walk_at "ss"
        refine m_app e3 ln fun H4 c4 e4 => ?_
        walk_at "ss"
        refine o_ixL ((s1.trans (c4.same s3 nd)).seq hB) (atI_nat gg) ?_
        walk_at "ss"
        exact ⟨_, _, _, _, ds ++ [r], rfl, c4.same s3 nd, by rw [e4, List.map_append]; rfl, snoc r r0 r1⟩
      · walk_at "ss"
        refine ix_pr ep (Int.emod_nonneg _ (by omega)) (Int.emod_lt_of_pos _ (by omega)) fun p p0 p1 => ?_
        refine o_modG p0 fun f f0 f1 => ?_
        walk_at "ss"
        refine ix_pr ep (Int.emod_nonneg _ (by omega)) (Int.emod_lt_of_pos _ (by omega)) fun p p2 p3 => ?_
        refine o_modG p2 fun m m0 m1 => ?_
        walk_at "ss"
        refine ix_pr ep (Int.emod_nonneg _ (by omega)) (Int.emod_lt_of_pos _ (by omega)) fun p p2 p3 => ?_
        refine o_modG p2 fun m m0 m1 => ?_
        walk_at "ss"
        refine m_ty (lst_of e3) ?_
        walk_at "ss"
        refine o_ixL hB3 (atI_nat gg) ?_
        refine o_modG z0 fun r r0 r1 => ?_
        walk_at "ss"
        refine m_app e3 ln fun H4 c4 e4 => ?_
        exact ⟨_, _, _, _, ds ++ [r], rfl, c4.same s3 nd, by rw [e4, List.map_append]; rfl, snoc r r0 r1⟩
    · obtain ⟨x, y, z, rest, ds, rfl, s3, e3, hd⟩ := p
      have hd : Dr ds (ss.take ss.length) := hd
      rw [List.take_length] at hd
      walk_at "ss"
      exact q d H3 ds (s1.trans s3) (s1.free nd) e3 hd
end
end K17
namespace K17
open PySem PySem.Spec PyProof.Rows L2 Wy WN WQ WS

-- WIDE
section
variable {P : Program} {w : World} {K : PySem.W.Frag} {mg : Str → Option Value} {base : Heap}
theorem k_law_is_integer (T : Tx K mg) : C8.Cal P w K mg base 1 "_law_is_integer" spIsInt [] := by
  refine cal_of (N := n_law_is_integer) T.d_law_is_integer sc_law_is_integer (fun _ _ F => F.bindsN fun _ _ _ _ _ _ us hl => match us, hl with | [_], _ => rfl) (fun vs H Q E h => ?_) (fun f cdv A outer s H vs Q E hr h => ?_)
  · obtain ⟨i, rfl, _⟩ := h
    rfl
  · obtain ⟨i, rfl, q⟩ := h
    refine ⟨_, (pss_one (ps_ret (pe_and (pe_callB (call_isi2 : CallR _ _ (rIsi2 K)) (by rfl) T.z_isinstance (by decide +kernel) (pa_cons (pv 0) (pa_cons (pe_bltn (v := .ty "int") (by rfl) T.z_int (by decide +kernel) rfl) pa_nil))) (pe_one (pe_not (pe_callB (call_isi2 : CallR _ _ (rIsi2 K)) (by rfl) T.z_isinstance (by decide +kernel) (pa_cons (pv 0) (pa_cons (pe_bltn (v := .ty "bool") (by rfl) T.z_bool (by decide +kernel) rfl) pa_nil)))))))), ?_⟩
    walk_at "xx"
    exact q
theorem k_law_kept (T : Tx K mg) : C8.Cal P w K mg base 1 "_law_kept" (spKept K) [] := by
  refine cal_of (N := n_law_kept) T.d_law_kept sc_law_kept (fun _ _ F => F.bindsN fun _ _ _ _ _ _ us hl => match us, hl with | [_, _], _ => rfl) (fun vs H Q E h => ?_) (fun f cdv A outer s H vs Q E hr h => ?_)
  · obtain ⟨a, b, us, ds, vals, rfl, _⟩ := h
    rfl
  · obtain ⟨a, b, us, ds, vals, rfl, hA, tA, hB, hin, hl, hv, q⟩ := h
    refine ⟨_, (pss_cons (ps_asg (pe_op op_add3 (pe_lst (pa_cons pe_int pa_nil)) (pv 1)) (pg_name (i := 2) sc_law_kept.nd rfl (Or.inr rfl))) (pss_one (ps_ret (pe_callC cc_all (by rfl) T.z_all (by decide +kernel) (pa_cons (pe_lc (own := [("u", 3), ("v", 4), ("c", 5)]) (g := (gTup K 3 (gCons (gName 3) (gCons (gName 4) (gCons (gName 5) (gNil)))))) (tt := tYes) (by rfl) sc_law_kept.nd (pi_seq (pv 0) : PI _ _ _ (iSeq K _)) (blkOk_by (own := [("u", 3), ("v", 4), ("c", 5)]) (N := n_law_kept) (sc := defScope s_law_kept) (by decide +kernel)) (fun _ _ _ _ _ => pg_tup (by rfl) (pgs_cons (pg_name (i := 3) sc_law_kept.nd rfl (Or.inl rfl)) (pgs_cons (pg_name (i := 4) sc_law_kept.nd rfl (Or.inl rfl)) (pgs_cons (pg_name (i := 5) sc_law_kept.nd rfl (Or.inl rfl)) pgs_nil)))) (fun _ _ _ _ _ => pts_nil) (fun _ _ _ _ _ => (pe_cmpR op_le (pe_op op_sub (pe_ix (ix_seq : IxR _ (rIx K)) (pv 2) (pv 3) (fun _ _ => rfl)) (pe_ix (ix_seq : IxR _ (rIx K)) (pv 2) (pv 4) (fun _ _ => rfl))) (pv 5) (nomark _)))) pa_nil))))), ?_⟩
    have lu := tA.length
    rw [List.length_map] at lu
    walk_at "xx"
    refine o_addL (by walk_at "hp") (by walk_at "hp") (by rw [List.length_map]; exact lz (by show 1 + _ ≤ _; omega)) fun lp H2 np s2 e2 => ?_
    have e2 : H2 lp = some (.lst ((0 :: vals).map V.int)) := e2
    walk_at "xx"
    have s0 : Same H H2 := by walk_at "sa"
    refine w_sq (hA.same s0) rfl fun J hJ => ?_
    refine c_acc hJ (One fun j y _ => ∃ d, ds[j]? = some d ∧ y = .bl (kept vals d)) (fun i acc H1 H2 _ h => h) (fun i acc H1 hi h => small1000' (by rw [h.1]; omega)) One.zero (fun j x H3 acc N M hx s3 o hN hM => ?_) (fun D H3 ys nD s3 e3 o => ?_)
    · obtain ⟨d, hd, td⟩ := tpGet (tA.tk (s0.trans s3).tk) hx
      obtain ⟨a1, _, _, _, rfl, ea, t1, t2, t3⟩ := WQ.tp3 td
      cases t1
      cases t2
      cases t3
      obtain ⟨r1, r2, r3, r4⟩ := hin d (List.mem_of_getElem? hd)
      walk_at "xx"
      refine ⟨rfl, ?_⟩
      walk_at "xx"
      refine ix_lv (by walk_at "sq") r1 (by omega) ?_
      walk_at "xx"
      refine ix_lv (by walk_at "sq") r3 (by omega) ?_
      walk_at "xx"
      exact hN _ _ (Same.refl _) (o.snoc (fun _ _ h => h) ⟨d, hd, rfl⟩)
    · have e := One.eq (xs := ds) (F := fun d => V.bl (kept vals d)) (lu ▸ o) (fun j y hj p => by
        obtain ⟨d, hd, rfl⟩ := p
        rw [hd]
        rfl)
      walk_at "xx"
      rw [e] at e3
      refine b_allM (lst_of e3) ?_
      exact q _ (by walk_at "sa")
end
end K17
namespace K17
open PySem PySem.Spec PyProof.Rows L2 Wy WN WQ WS WC WE WO WT

-- WIDE
section
variable {P : Program} {w : World} {K : PySem.W.Frag} {mg : Str → Option Value} {base : Heap}
theorem k_joined (T : Tx K mg) : C8.Cal P w K mg base 1 "_joined" (spJoin K) [] := by
  refine cal_of (N := n_joined) T.d_joined sc_joined (fun _ _ F => F.bindsN fun _ _ _ _ _ _ us hl => match us, hl with | [_, _], _ => rfl) (fun vs H Q E h => ?_) (fun f cdv A outer s H vs Q E hr h => ?_)
  · obtain ⟨x, y, a, b, rfl, _⟩ := h
    rfl
  · obtain ⟨x, y, a, b, rfl, tx, ty, hl, q⟩ := h
    obtain ⟨x1, x2, rfl, ex, ex2⟩ := cellS tx rfl
    obtain ⟨y1, y2, rfl, ey, ey2⟩ := cellS ty rfl
    clear tx ty
    refine ⟨_, (pss_one (ps_ret (pe_tup (pa_cons (pe_op op_add3 (pe_ix (ix_seq : IxR _ (rIx K)) (pv 0) pe_int (fun _ _ => rfl)) (pe_ix (ix_seq : IxR _ (rIx K)) (pv 1) pe_int (fun _ _ => rfl))) (pa_cons (pe_op (op_catA : OpR _ _ (rCatA K)) (pe_ix (ix_seq : IxR _ (rIx K)) (pv 0) pe_int (fun _ _ => rfl)) (pe_ix (ix_seq : IxR _ (rIx K)) (pv 1) pe_int (fun _ _ => rfl))) pa_nil))))), ?_⟩
    walk_at "xx"
    have hz : sizeLine = 16777216 := sizeLine_eq
    refine o_catT ex2 ey2 (by rw [List.length_map, List.length_map, hz]; omega) fun p H2 s2 e2 => ?_
    walk_at "xx"
    rename_i p' H3 n3 s3 e3
    refine q _ _ (s2.trans s3) (cellT (p := joinC a b) e3 ?_)
    rw [s3 _ _ e2]
    simp only [joinC, List.map_append]
theorem k_shorter (T : Tx K mg) : C8.Cal P w K mg base 2 "_shorter" (spShorter K) [] := by
  refine cal_of (N := n_shorter) T.d_shorter sc_shorter (fun _ _ F => F.bindsN fun _ _ _ _ _ _ us hl => match us, hl with | [_, _, _], _ => rfl) (fun vs H Q E h => ?_) (fun f cdv A outer s H vs Q E hr h => ?_)
  · obtain ⟨x, y, z, old, rest, a, rfl, _⟩ := h
    rfl
  · obtain ⟨x, y, z, old, rest, a, rfl, tx, ty, tz, hl, q⟩ := h
    obtain ⟨y1, y2, rfl, ey, ey2⟩ := cellS ty rfl
    refine ⟨_, (pss_cons (ps_if (PW.pt (pw_or (pt_cmpR op_isN2 (pv 2) pe_non (nomark _)) (pw_or1 (PW.pt (pw_and (pt_cmpR op_ntN2 (pv 0) pe_non (nomark _)) (pw_and1 (pt_cmpR op_le (pe_ix (ix_seq : IxR _ (rIx K)) (pv 0) pe_int (fun _ _ => rfl)) (pe_op op_add3 (pe_ix (ix_seq : IxR _ (rIx K)) (pv 1) pe_int (fun _ _ => rfl)) (pe_ix (ix_seq : IxR _ (rIx K)) (pv 2) pe_int (fun _ _ => rfl))) (nomark _)))))))) (pss_one (ps_ret (pv 0))) pss_nil) (pss_one (ps_ret (C8.pe_c (k_joined T) hr (by first | decide | omega) (by rfl) (pa_cons (pv 1) (pa_cons (pv 2) pa_nil)))))), ?_⟩
    walk_at "xx"
    cases rest with
    | none =>
      cases cellN tz rfl
      walk_at "xx"
      exact q _ _ (Same.refl _) tx
    | some r =>
      obtain ⟨z1, z2, rfl, ez, ez2⟩ := cellS tz rfl
      have jn : ∀ (N : VK), (∀ p H', Same H H' → Tp H' p (cellD (some (joinC a r))) → N p H') → spJoin K [.ref y1, .ref z1] H N C8.E0 := fun N h => ⟨_, _, a, r, rfl, ty, tz, hl r rfl, h⟩
      cases old with
      | none =>
        cases cellN tx rfl
        walk_at "xx"
        exact jn _ fun p H' s t => q _ _ s t
      | some o =>
        obtain ⟨x1, x2, rfl, ex, ex2⟩ := cellS tx rfl
        rw [shorter_some] at q
        walk_at "xx"
        refine iteD (fun e => ?_) (fun e => ?_)
        · rw [if_pos e] at q
          walk_at "xx"
          exact q _ _ (Same.refl _) tx
        · rw [if_neg e] at q
          walk_at "xx"
          exact jn _ fun p H' s t => q _ _ s t
theorem k_row_with_step (T : Tx K mg) : C8.Cal P w K mg base 3 "_row_with_step" (spRowS K) [] := by
  refine cal_of (N := n_row_with_step) T.d_row_with_step sc_row_with_step (fun _ _ F => F.bindsN fun _ _ _ _ _ _ us hl => match us, hl with | [_, _, _, _], _ => rfl) (fun vs H Q E h => ?_) (fun f cdv A outer s H vs Q E hr h => ?_)
  · obtain ⟨r, bh, bf, st, cs, ks, row, behind, before, p, L, rfl, _⟩ := h
    rfl
  · obtain ⟨r, bh, bf, st, cs, ks, row, behind, before, p, L, rfl, er, tr, tb, ts, eb, tk, hl, h2, hb1, hb2, hL, q⟩ := h
    refine ⟨_, (pss_cons (ps_if (pt_cmpR op_isN2 (pv 1) pe_non (nomark _)) (pss_one (ps_ret (pv 0))) pss_nil) (pss_cons (ps_asg (C8.pe_c (k_joined T) hr (by first | decide | omega) (by rfl) (pa_cons (pv 1) (pa_cons (pv 2) pa_nil))) (pg_name (i := 4) sc_row_with_step.nd rfl (Or.inr rfl))) (pss_one (ps_ret (pe_lc (own := [("old", 5), ("rest", 6)]) (g := (gTup K 2 (gCons (gName 5) (gCons (gName 6) (gNil))))) (tt := tYes) (by rfl) sc_row_with_step.nd (pi_zip (by rfl) T.z_zip (pa_cons (pv 0) (pa_cons (pv 3) pa_nil))) (blkOk_by (own := [("old", 5), ("rest", 6)]) (N := n_row_with_step) (sc := defScope s_row_with_step) (by decide +kernel)) (fun _ _ _ _ _ => pg_tup (by rfl) (pgs_cons (pg_name (i := 5) sc_row_with_step.nd rfl (Or.inl rfl)) (pgs_cons (pg_name (i := 6) sc_row_with_step.nd rfl (Or.inl rfl)) pgs_nil))) (fun _ _ _ _ _ => pts_nil) (fun _ _ _ _ _ => (C8.pe_c (k_shorter T) hr (by first | decide | omega) (by rfl) (pa_cons (pv 5) (pa_cons (pv 4) (pa_cons (pv 6) pa_nil)))))))))), ?_⟩
    have lc := tr.length
    have lk := tk.length
    rw [List.length_map] at lc lk
    walk_at "xx"
    cases before with
    | none =>
      cases cellN tb rfl
      walk_at "xx"
      exact q r H cs (Same.refl _) er tr (.inl rfl)
    | some b =>
      obtain ⟨b1, b2, rfl, eb1, eb2⟩ := cellS tb rfl
      have hbl := hb1 b rfl
      walk_at "xx"
      refine ⟨_, _, b, p, rfl, tb, ts, by omega, fun th H1 s1 t1 => ?_⟩
      walk_at "xx"
      refine ⟨r, bh, cs, ks, rfl, lst_of (s1 _ _ er), lst_of (s1 _ _ eb), ?_⟩
      refine c_it (walk_zip (n := row.length) (by omega)) (fun D i acc H2 => TpAll H2 acc (((row.zip behind).take i).map fun (p2 : Cell × Cell) => cellD (shorter p2.1 (joinC b p) p2.2))) (fun H' s' => ⟨lst_of (s' _ _ (s1 _ _ er)), lst_of (s' _ _ (s1 _ _ eb))⟩)
        (fun i H1 x H2 y => ypair_same y) (small1000' (by omega)) (fun D i acc H1 t => by have := t.length; rw [List.length_map, List.length_take] at this; omega) (fun D i acc H1 H2 c ⟨ys, e⟩ t => t.tk (c.tk e)) (fun D H1 nD s e => .nil) (fun D i x H2 H3 acc N M hi nD s2 eD o y s3 hN hM => ?_) (fun D H2 ys nD s2 e2 o => ?_)
      · obtain ⟨T', x1, x2, rfl, nT, rfl, g1, g2⟩ := y
        have S3 := s1.trans (s2.trans s3)
        obtain ⟨c1, gc1, tc1⟩ := tpGet (F := cellD) (tr.tk S3.tk) g1
        obtain ⟨c2, gc2, tc2⟩ := tpGet (F := cellD) (tk.tk S3.tk) g2
        have eT : (upd H2 T' (.tup [x1, x2])) T' = some (.tup [x1, x2]) := upd_same
        walk_at "xx"
        refine ⟨rfl, ?_⟩
        walk_at "xx"
        refine ⟨x1, th, x2, c1, c2, joinC b p, rfl, tc1, t1.tk (s2.trans s3).tk, tc2, fun c e => ?_, fun pp H4 s4 t4 => ?_⟩
        · subst e
          have := hb2 c (List.mem_of_getElem? gc2)
          simp only [joinC, List.length_append]
          omega
        refine hN _ _ s4 ?_
        have gz : (row.zip behind)[i]? = some (c1, c2) := List.getElem?_zip_eq_some.mpr ⟨gc1, gc2⟩
        rw [List.take_succ, gz, List.map_append]
        exact tpSnoc (o.tk (s3.trans s4).tk) t4
      · walk_at "xx"
        refine q D H2 ys (s1.trans s2) e2 ?_ (.inr (s1.free nD))
        have e3 : (rowStep row (some b) p behind).map cellD = ((row.zip behind).take row.length).map fun (p2 : Cell × Cell) => cellD (shorter p2.1 (joinC b p) p2.2) := by
          rw [List.take_of_length_le (by rw [List.length_zip]; omega)]
          unfold rowStep
          rw [List.map_map]
          rfl
        rw [e3]
        exact o
end
end K17
namespace K17
open PySem PySem.Spec PyProof.Rows L2 Wy WN WQ WS WC WE WO WT

-- WIDE
-- CUT System.tie
section
variable {P : Program} {w : World} {K : PySem.W.Frag} {mg : Str → Option Value} {base : Heap}
theorem k_System___init (T : Tx K mg) : C8.Mak P w K mg base 1 "System" (He.ga K "System") (spSysInit K) [] := by
  refine mak_of (N := n_System___init) T.d_System___init sc_System___init (fun _ _ F => F.bindsN fun _ _ _ _ _ _ us hl => match us, hl with | [_, _], _ => rfl) (fun vs H Q E h => ?_) (fun f cdv A outer s H vs Q E hr h => ?_)
  · obtain ⟨x, dx, n, rfl, _⟩ := h
    rfl
  · obtain ⟨x, dx, n, rfl, hx, hn, q⟩ := h
    refine ⟨_, (pss_cons (WO.ps_fldK (K := K) (pv 0) (pv 1)) (pss_cons (WO.ps_fldK (K := K) (pv 0) (pe_lst pa_nil)) (pss_one (WO.ps_fldK (K := K) (pv 0) (pe_lc (own := [("u", 2)]) (g := gName 2) (tt := tYes) (by rfl) sc_System___init.nd (pi_range1 (by rfl) T.z_range (pa_cons (pe_op op_add3 (pv 1) pe_int) pa_nil)) (blkOk_by (own := [("u", 2)]) (N := n_System___init) (sc := defScope s_System___init) (by decide +kernel)) (fun _ _ _ _ _ => pg_name (i := 2) sc_System___init.nd rfl (Or.inr rfl)) (fun _ _ _ _ _ => pts_nil) (fun _ _ _ _ _ => (pe_lc (own := [("v", 3)]) (g := gName 3) (tt := tYes) (by rfl) sc_System___init.nd (pi_range1 (by rfl) T.z_range (pa_cons (pe_op op_add3 (pv 1) pe_int) pa_nil)) (blkOk_by (own := [("v", 3)]) (N := n_System___init) (by kernel_rfl)) (fun _ _ _ _ _ => pg_name (i := 3) sc_System___init.nd rfl (Or.inl rfl)) (fun _ _ _ _ _ => pts_nil) (fun _ _ _ _ _ => (pe_ifExp (pt_cmpR (op_eq2 hr.units : OpR _ _ (rEq2 K)) (pv 3) (pv 2) (nomark _)) (pe_tup (pa_cons pe_int (pa_cons (pe_tup pa_nil) pa_nil))) pe_non))))))))), ?_⟩
    have cl := T.c_System
    have a1 := T.a_System_many
    have a2 := T.a_System_differences
    have a3 := T.a_System__table
    walk_at "xx"
    refine k_fldS hx cl a1 (Nat.lt_of_sub_eq_succ rfl) fun H1 c1 e1 => ?_
    have e1 : H1 x = some (.ins (He.ga K "System") dx [("many", .int n)]) := e1
    walk_at "xx"
    rename_i dl H2 n2 s2 e2
    refine k_fldS (s2 _ _ e1) cl a2 (Nat.lt_of_sub_eq_succ rfl) fun H3 c3 e3 => ?_
    have e3 : H3 x = some (.ins (He.ga K "System") dx [("many", .int n), ("differences", .ref dl)]) := e3
    have d3 : H3 dl = some (.lst []) := c3.at e2 (ne_of e2 (s2 _ _ e1) (by intro z; cases z))
    have nb : ∀ b, H3 b = none → H b = none := fun b hb => by
      cases hbb : H b with
      | none => rfl
      | some o =>
        by_cases q0 : b = x
        · subst q0
          rw [e3] at hb
          cases hb
        · have := c3.at (s2 _ _ (c1.at hbb q0)) q0
          rw [this] at hb
          cases hb
    walk_at "xx"
    refine c_it (n := n + 1) (Y := YFn fun i => .int ((0 : Int) + i)) (G := fun _ => True) (by have := walk_range (lo := 0) (n := n + 1); rw [show ((n : Int) + 1).toNat = n + 1 by omega]; exact this)
      (fun D i acc H4 => acc.length = i ∧ ∀ (j : Nat) (y : V), acc[j]? = some y → ∃ r, y = .ref r ∧ r ≠ D ∧ H3 r = none ∧ RowAt H4 r ((List.range (n + 1)).map fun v => if v = j then some (0, []) else none)) (fun _ _ => True.intro) (fun i H1 x H2 y => by rw [y.1]; exact Same.refl _) (small1000' (by omega))
      (fun D i acc H1 o => Nat.le_of_eq o.1) (fun D i acc H5 H6 c ⟨ys, e⟩ o => ⟨o.1, fun j y g => ?_⟩) (fun D H4 nD s e => ⟨rfl, fun j y g => by cases g⟩) (fun D i xx H4 H5 acc N M hi nD s4 eD o y s5 hN hM => ?_) (fun D H4 ys nD s4 e4 o => ?_)
    · obtain ⟨r, rfl, hr, hr0, cs, e2, t2⟩ := o.2 j y g
      exact ⟨r, rfl, hr, hr0, cs, c.at e2 hr, t2.tk (c.tk e)⟩
    · obtain ⟨rfl, rfl⟩ := y
      clear s5
      show gName 2 (.int ((0 : Int) + (i : Nat))) _ _ _
      rw [Int.zero_add]
      walk_at "xx"
      refine ⟨rfl, ?_⟩
      walk_at "xx"
      refine c_tps (fun v => cellD (if v = i then some (0, []) else none)) (fun j H6 N' hj s6 hN' => ?_) (by omega) (fun _ => rfl) fun D2 H6 cs nD2 s6 e6 t6 => ?_
      · rw [Int.zero_add]
        walk_at "xx"
        refine iteI (fun e => ?_) (fun e => ?_)
        · walk_at "xx"
          rename_i p7 H7 n7 s7 e7 p8 H8 n8 s8 e8
          refine hN' _ _ (by walk_at "sa") ?_
          rw [if_pos (by omega)]
          exact cellT (p := (0, [])) e8 (s8 _ _ e7)
        · walk_at "xx"
          refine hN' _ _ (Same.refl _) ?_
          rw [if_neg (by omega)]
          exact .non
      refine hN _ _ s6 ⟨by rw [List.length_append, o.1]; rfl, fun j y g => ?_⟩
      by_cases hj : j < acc.length
      · rw [List.getElem?_append_left hj] at g
        obtain ⟨r, rfl, hr, hr0, cs, e2, t2⟩ := o.2 j y g
        exact ⟨r, rfl, hr, hr0, cs, s6 _ _ e2, t2.tk s6.tk⟩
      · have hj2 := (List.getElem?_eq_some_iff.mp g).1
        rw [List.length_append, List.length_singleton] at hj2
        have : j = acc.length := by omega
        subst this
        rw [List.getElem?_append_right (Nat.le_refl _), Nat.sub_self] at g
        cases g
        refine ⟨D2, rfl, fun e => ?_, s4.free nD2, cs, e6, ?_⟩
        · subst e
          rw [eD] at nD2
          cases nD2
        · rw [List.map_map, o.1]
          rw [show ((n : Int) + 1).toNat = n + 1 by omega] at t6
          exact t6
    · have hx4 := s4 _ _ e3
      walk_at "xx"
      refine k_fldS hx4 cl a3 (Nat.lt_of_sub_eq_succ rfl) fun H5 c5 e5 => ?_
      obtain ⟨rs, rfl⟩ : ∃ rs : List Addr, ys = rs.map V.ref := by
        have : ∀ ys : List V, (∀ y ∈ ys, ∃ r, y = .ref r) → ∃ rs : List Addr, ys = rs.map V.ref := by
          intro ys
          induction ys with
          | nil => exact fun _ => ⟨[], rfl⟩
          | cons y r ih =>
            intro h
            obtain ⟨i, rfl⟩ := h y List.mem_cons_self
            obtain ⟨xs, rfl⟩ := ih fun z hz => h z (List.mem_cons_of_mem _ hz)
            exact ⟨i :: xs, rfl⟩
        exact this ys fun y hy => by
          obtain ⟨j, hj, e⟩ := List.getElem_of_mem hy
          obtain ⟨r, h, _⟩ := o.2 j y (by rw [List.getElem?_eq_getElem hj, e])
          exact ⟨r, h⟩
      have lr := o.1
      rw [List.length_map] at lr
      have rw_ : ∀ (i : Nat) (r : Addr), rs[i]? = some r → H3 r = none ∧ RowAt H4 r ((List.range (n + 1)).map fun v => if v = i then some (0, []) else none) := fun i r g => by
        obtain ⟨r', h, _, h3, h4⟩ := o.2 i (.ref r) (by rw [List.getElem?_map, g]; rfl)
        cases h
        exact ⟨h3, h4⟩
      refine q H5 ⟨dx, dl, D, rs⟩ (fun b ob nbx e => ?_) ?_ rfl ?_ (nb _ nD) (fun r hr => ?_)
      · have nbx : b ≠ x := fun e => nbx (by rw [e]; exact List.mem_singleton_self _)
        exact c5.at (s4 _ _ (c3.at (s2 _ _ (c1.at e nbx)) nbx)) nbx
      · have ne : ∀ (b : Addr) (xs : List V), H4 b = some (.lst xs) → b ≠ x := fun b xs e => ne_of e hx4 (by intro z; cases z)
        refine ⟨e5, ⟨[], c5.at (s4 _ _ d3) (ne _ _ (s4 _ _ d3)), .nil⟩, c5.at e4 (ne _ _ e4), by rw [(tab0_sq n).1]; exact lr, fun i r row g1 g2 => ?_, fun h => ?_, fun e => ?_, tab0_sq n⟩
        · obtain ⟨_, cs, e6, t6⟩ := rw_ i r g1
          have hi : i < rs.length := (List.getElem?_eq_some_iff.mp g1).1
          have er : row = (List.range (n + 1)).map fun v => if v = i then some (0, []) else none := by
            unfold tab0 at g2
            rw [List.getElem?_map, List.getElem?_range (by omega)] at g2
            exact (Option.some.inj g2).symm
          rw [er]
          exact ⟨cs, c5.at e6 (ne _ _ e6), t6.tk (fun a xs h => c5.at h (ne_of h hx4 (by intro z; cases z)))⟩
        · obtain ⟨i, hi, e⟩ := List.getElem_of_mem h
          have := (rw_ i _ (List.getElem?_eq_getElem hi)).1
          rw [e, d3] at this
          cases this
        · have e : dl = D := e
          rw [← e, d3] at nD
          cases nD
      · cases hb : H dl with
        | none => rfl
        | some o =>
          by_cases q0 : dl = x
          · rw [q0, e1] at n2
            cases n2
          · rw [c1.at hb q0] at n2
            cases n2
      · obtain ⟨i, hi, e⟩ := List.getElem_of_mem hr
        have := (rw_ i _ (List.getElem?_eq_getElem hi)).1
        rw [e] at this
        exact nb _ this
theorem k_System__bring_in (T : Tx K mg) : C8.Met P w K mg base 4 (He.ga K "System") "_bring_in" (spBring K) [] := by
  refine met_of (N := n_System__bring_in) T.d_System__bring_in T.c_System sc_System__bring_in (fun _ _ F => F.bindsN fun _ _ _ _ _ _ us hl => match us, hl with | [_, _, _, _], _ => rfl) (fun vs H Q E h => ?_) (fun f cdv A outer s H vs Q E hr h => ?_)
  · obtain ⟨x, st, S, n, ds, M, u, v, p, L, rfl, _⟩ := h
    rfl
  · obtain ⟨x, st, S, n, ds, M, u, v, p, L, rfl, hs, ts, u0, u1, v0, v1, hn, hsh, hL, q⟩ := h
    refine ⟨_, (pss_cons (ps_asg (pe_ix (ix_seq : IxR _ (rIx K)) (WO.pe_fldK (K := K) (pv 0)) (pv 2) (fun _ _ => rfl)) (pg_name (i := 4) sc_System__bring_in.nd rfl (Or.inr rfl))) (pss_one (WO.ps_fldK (K := K) (pv 0) (pe_lc (own := [("known", 5)]) (g := gName 5) (tt := tYes) (by rfl) sc_System__bring_in.nd (pi_list (WO.pe_fldK (K := K) (pv 0)) : PI _ _ _ (iList K _)) (blkOk_by (own := [("known", 5)]) (N := n_System__bring_in) (sc := defScope s_System__bring_in) (by decide +kernel)) (fun _ _ _ _ _ => pg_name (i := 5) sc_System__bring_in.nd rfl (Or.inl rfl)) (fun _ _ _ _ _ => pts_nil) (fun _ _ _ _ _ => (C8.pe_c (k_row_with_step T) hr (by first | decide | omega) (by rfl) (pa_cons (pv 5) (pa_cons (pe_ix (ix_seq : IxR _ (rIx K)) (pv 5) (pv 1) (fun _ _ => rfl)) (pa_cons (pv 3) (pa_cons (pv 4) pa_nil)))))))))), ?_⟩
    have cl := T.c_System
    have a3 := T.a_System__table
    have hx := hs.ins
    obtain ⟨r, ks, g1, ek, tk, lk⟩ := hs.get (u := v.toNat) (by omega)
    have lrs : S.rs.length = n + 1 := by rw [hs.len, hs.sq.1]
    walk_at "xx"
    refine o_ixL (lst_of hs.tab) (atI_of (j := v.toNat) (by omega) (v := .ref r) (by rw [List.getElem?_map, g1]; rfl)) ?_
    walk_at "xx"
    refine k_l (lst_of hs.tab) ?_
    refine c_it (walk_list (K := K) (a := S.tp) (xs := S.rs.map V.ref))
      (fun D i acc H4 => acc.length = i ∧ ∀ (j : Nat) (y : V), acc[j]? = some y → ∃ r, y = .ref r ∧ r ≠ D ∧ (r ∈ S.rs ∨ H r = none) ∧ ∀ row, (bring M u.toNat v.toNat p)[j]? = some row → RowAt H4 r row) (fun H' s' => lst_of (s' _ _ hs.tab)) (fun i H1 x H2 y => yat_same y) (small1000' (by rw [List.length_map]; omega))
      (fun D i acc H1 o => Nat.le_of_eq o.1) (fun D i acc H5 H6 c ⟨ys, e⟩ o => ⟨o.1, fun j y g => ?_⟩) (fun D H4 nD s e => ⟨rfl, fun j y g => by cases g⟩) (fun D i xx H4 H5 acc N M' hi nD s4 eD o y s5 hN hM => ?_) (fun D H4 ys nD s4 e4 o => ?_)
    · obtain ⟨r, rfl, hr, hr0, f⟩ := o.2 j y g
      refine ⟨r, rfl, hr, hr0, fun row hrow => ?_⟩
      obtain ⟨cs, e2, t2⟩ := f row hrow
      exact ⟨cs, c.at e2 hr, t2.tk (c.tk e)⟩
    · obtain ⟨rfl, gx⟩ := y
      clear s5
      rw [List.length_map] at hi
      rw [List.getElem?_map, List.getElem?_eq_getElem hi] at gx
      cases gx
      have gm : M[i]? = some (M.getD i []) := row_of hs.sq (by omega)
      have gb : (bring M u.toNat v.toNat p)[i]? = some (rowStep (M.getD i []) ((M.getD i []).getD u.toNat none) p (M.getD v.toNat [])) := by
        unfold bring
        rw [List.getElem?_map, gm]
        rfl
      obtain ⟨cs, e1, t1⟩ := hs.rows i S.rs[i] _ (List.getElem?_eq_getElem hi) gm
      have l1 := hs.sq.2 _ (List.mem_of_getElem? gm)
      have lcs := t1.length
      rw [List.length_map] at lcs
      obtain ⟨y, g2, ty⟩ := row_cell hs.sq (u := i) (v := u.toNat) (by omega) (by omega) t1
      have mV := List.mem_of_getElem? (row_of hs.sq (i := v.toNat) (by omega))
      walk_at "xx"
      refine ⟨rfl, ?_⟩
      walk_at "xx"
      refine o_ixL (lst_of (s4 _ _ e1)) (atI_of (j := u.toNat) (by omega) g2) ?_
      walk_at "xx"
      refine ⟨S.rs[i], r, y, .ref st, cs, ks, M.getD i [], M.getD v.toNat [], (M.getD i []).getD u.toNat none, p, L, rfl, s4 _ _ e1, t1.tk s4.tk, ?_, ts.tk s4.tk, s4 _ _ ek, tk.tk s4.tk, by rw [l1, hs.sq.2 _ mV], by omega, fun c hc => ?_, fun c hc => hsh _ mV c hc, hL, fun q' H6 cs' s6 e6 t6 hq' => ?_⟩
      · exact ty.tk s4.tk
      · refine hsh _ (List.mem_of_getElem? gm) c ?_
        rw [← hc, List.getD_eq_getElem?_getD (l := M.getD i []), List.getElem?_eq_getElem (by omega)]
        exact List.getElem_mem _
      · refine hN _ _ s6 ⟨by rw [List.length_append, o.1]; rfl, fun j y g => ?_⟩
        by_cases hj : j < acc.length
        · rw [List.getElem?_append_left hj] at g
          obtain ⟨r, rfl, hr, hr0, f⟩ := o.2 j y g
          refine ⟨r, rfl, hr, hr0, fun row hrow => ?_⟩
          obtain ⟨cs, e2, t2⟩ := f row hrow
          exact ⟨cs, s6 _ _ e2, t2.tk s6.tk⟩
        · have hj2 := (List.getElem?_eq_some_iff.mp g).1
          rw [List.length_append, List.length_singleton] at hj2
          have : j = acc.length := by omega
          subst this
          rw [List.getElem?_append_right (Nat.le_refl _), Nat.sub_self] at g
          cases g
          refine ⟨q', rfl, fun e => ?_, ?_, fun row hrow => ?_⟩
          · subst e
            rcases hq' with h | h
            · rw [h, e1] at nD
              cases nD
            · rw [eD] at h
              cases h
          · rcases hq' with h | h
            · rw [h]
              exact .inl (List.getElem_mem hi)
            · exact .inr (s4.free h)
          · rw [o.1, gb] at hrow
            cases hrow
            exact ⟨cs', e6, t6⟩
    · have hx4 := s4 _ _ hx
      rw [List.length_map] at o
      walk_at "xx"
      refine k_fldS hx4 cl a3 (Nat.lt_of_sub_eq_succ rfl) fun H5 c5 e5 => ?_
      have e5 : H5 x = some (.ins (He.ga K "System") S.dx (sysFs ⟨S.dx, S.dl, D, []⟩ n)) := e5
      obtain ⟨rs, rfl⟩ := refs_of fun j y g => by
        obtain ⟨r, h, _⟩ := o.2 j y g
        exact ⟨r, h⟩
      have lr := o.1
      rw [List.length_map, lrs] at lr
      have fact : ∀ (i : Nat) (r : Addr), rs[i]? = some r → (r ∈ S.rs ∨ H r = none) ∧ ∀ row, (bring M u.toNat v.toNat p)[i]? = some row → RowAt H4 r row := fun i r g => by
        obtain ⟨r', h, _, h3, h4⟩ := o.2 i (.ref r) (by rw [List.getElem?_map, g]; rfl)
        cases h
        exact ⟨h3, h4⟩
      have ne : ∀ (b : Addr) (xs : List V), H4 b = some (.lst xs) → b ≠ x := fun b xs e => ne_of e hx4 (by intro z; cases z)
      have k5 : TK H4 H5 := fun a xs h => c5.at h (ne_of h hx4 (by intro z; cases z))
      obtain ⟨us, d1, d2⟩ := hs.diffs
      have hall : ∀ r ∈ rs, r ∈ S.rs ∨ H r = none := fun r hr => by
        obtain ⟨i, hi, e⟩ := List.getElem_of_mem hr
        have := (fact i _ (List.getElem?_eq_getElem hi)).1
        rwa [e] at this
      refine q H5 ⟨S.dx, S.dl, D, rs⟩ (fun b ob nbx e => c5.at (s4 _ _ e) (fun e => nbx (by rw [e]; exact List.mem_singleton_self _))) ?_ rfl rfl nD hall
      refine ⟨e5, ⟨us, c5.at (s4 _ _ d1) (ne _ _ (s4 _ _ d1)), d2.tk (s4.tk.trans k5)⟩, c5.at e4 (ne _ _ e4), by rw [(bring_sq hs.sq (by omega)).1]; exact lr, fun i r row g1 g2 => ?_, fun h => ?_, fun e => ?_, bring_sq hs.sq (by omega)⟩
      · obtain ⟨cs, e6, t6⟩ := (fact i r g1).2 row g2
        exact ⟨cs, c5.at e6 (ne _ _ e6), t6.tk k5⟩
      · rcases hall _ h with h | h
        · exact hs.ap1 h
        · have h : H S.dl = none := h
          rw [d1] at h
          cases h
      · have e : S.dl = D := e
        rw [← e, d1] at nD
        cases nD
theorem k_System_tie (T : Tx K mg) : C8.Met P w K mg base 5 (He.ga K "System") "tie" (spTie K) [] := by
  refine met_of (N := n_System_tie) T.d_System_tie T.c_System sc_System_tie (fun _ _ F => F.bindsN fun _ _ _ _ _ _ us hl => match us, hl with | [_, _], _ => rfl) (fun vs H Q E h => ?_) (fun f cdv A outer s H vs Q E hr h => ?_)
  · obtain ⟨x, d, S, n, ds, M, df, L, rfl, _⟩ := h
    rfl
  · obtain ⟨x, d, S, n, ds, M, df, L, rfl, hs, td, hin, hd, hn, hsh, hL, qr, qn⟩ := h
    refine ⟨_, (pss_cons (ps_asg (pv 1) (pg_tup (by rfl) (pgs_cons (pg_name (i := 2) sc_System_tie.nd rfl (Or.inl rfl)) (pgs_cons (pg_name (i := 3) sc_System_tie.nd rfl (Or.inl rfl)) (pgs_cons (pg_name (i := 4) sc_System_tie.nd rfl (Or.inl rfl)) pgs_nil))) : PG _ _ (gTup K _ _))) (pss_cons (ps_asg (pe_callB (call_len2 : CallR _ _ (rLn K)) (by rfl) T.z_len (by decide +kernel) (pa_cons (WO.pe_fldK (K := K) (pv 0)) pa_nil)) (pg_name (i := 5) sc_System_tie.nd rfl (Or.inl rfl))) (pss_cons (ps_expr (pe_bm PySem.F.plainAttrs_list PySem.F.slot_list_append PySem.F.type_list_append mt_append (WO.pe_fldK (K := K) (pv 0)) (pa_cons (pv 1) pa_nil) : PE _ _ (tBM K _ _ _ _))) (pss_cons (ps_asg (pe_ix (ix_seq : IxR _ (rIx K)) (pe_ix (ix_seq : IxR _ (rIx K)) (WO.pe_fldK (K := K) (pv 0)) (pv 3) (fun _ _ => rfl)) (pv 2) (fun _ _ => rfl)) (pg_name (i := 6) sc_System_tie.nd rfl (Or.inl rfl))) (C8.pss_cut (ps_if (PW.pt (pw_and (pt_cmpR op_ntN2 (pv 6) pe_non (nomark _)) (pw_and1 (pt_cmpR op_lt (pe_op op_add3 (pv 4) (pe_ix (ix_seq : IxR _ (rIx K)) (pv 6) pe_int (fun _ _ => rfl))) pe_int (nomark _))))) (pss_one (ps_ret (pe_tup (pa_cons (pv 5) (pa_star (pe_ix (ix_seq : IxR _ (rIx K)) (pv 6) pe_int (fun _ _ => rfl)) pa_nil : PA _ _ (tStar K _ _)))))) pss_nil) (pss_cons (ps_asg (pe_ix (ix_seq : IxR _ (rIx K)) (pe_ix (ix_seq : IxR _ (rIx K)) (WO.pe_fldK (K := K) (pv 0)) (pv 2) (fun _ _ => rfl)) (pv 3) (fun _ _ => rfl)) (pg_name (i := 7) sc_System_tie.nd rfl (Or.inl rfl))) (C8.pss_cut (ps_if (PW.pt (pw_or (pt_cmpR op_isN2 (pv 7) pe_non (nomark _)) (pw_or1 (pt_cmpR op_lt (pv 4) (pe_ix (ix_seq : IxR _ (rIx K)) (pv 7) pe_int (fun _ _ => rfl)) (nomark _))))) (pss_one (ps_expr (C8.pe_mt (k_System__bring_in (K := K) T) hr (by first | decide | omega) (pv 0) (pa_cons (pv 2) (pa_cons (pv 3) (pa_cons (pe_tup (pa_cons (pv 4) (pa_cons (pe_tup (pa_cons (pv 5) pa_nil)) pa_nil))) pa_nil)))))) pss_nil) (pss_one (ps_ret pe_non))))))))), ?_⟩
    have cl := T.c_System
    have a2 := T.a_System_differences
    have a3 := T.a_System__table
    have hx := hs.ins
    obtain ⟨us, d1, d2⟩ := hs.diffs
    have lus := d2.length
    rw [List.length_map] at lus
    obtain ⟨da, _, _, _, rfl, ed, t1, t2, t3⟩ := WQ.tp3 td
    cases t1
    cases t2
    cases t3
    obtain ⟨i0, i1, i2, i3⟩ := id hin
    have lrs : S.rs.length = n + 1 := by rw [hs.len, hs.sq.1]
    walk_at "xx"
    refine b_lenL (lst_of d1) ?_
    rw [lus]
    walk_at "xx"
    refine m_ty (lst_of d1) ?_
    walk_at "xx"
    refine m_app d1 (small1000' (by omega)) fun H1 c1 e1 => ?_
    have nx : x ≠ S.dl := ne_of hx d1 (by intro z; cases z)
    have k1 : TK H H1 := c1.tk d1
    have hx1 := c1.at hx nx
    have et1 := c1.at hs.tab (Ne.symm hs.ap2)
    have ed1 := c1.at ed (ne_of ed d1 (by intro z; cases z))
    have hs1 : SysAt K H1 x S n (ds ++ [df]) M := ⟨hx1, ⟨_, e1, by rw [List.map_append]; exact tpSnoc (d2.tk k1) (.tup ed1 (by walk_at "tp"))⟩, et1, hs.len, fun i r row g1 g2 => by
      obtain ⟨cs, e2, t2⟩ := hs.rows i r row g1 g2
      exact ⟨cs, c1.at e2 (fun e => hs.ap1 (e ▸ List.mem_of_getElem? g1)), t2.tk k1⟩, hs.ap1, hs.ap2, hs.sq⟩
    obtain ⟨rv, cv, g1, ev, tv, lcv⟩ := hs1.get (u := df.2.1.toNat) (by omega)
    obtain ⟨yb, g2, tb⟩ := row_cell hs.sq (u := df.2.1.toNat) (v := df.1.toNat) (by omega) (by omega) tv
    walk_at "xx"
    refine o_ixL (lst_of et1) (atI_of (j := df.2.1.toNat) (by omega) (v := .ref rv) (by rw [List.getElem?_map, g1]; rfl)) ?_
    walk_at "xx"
    refine o_ixL (lst_of ev) (atI_of (j := df.1.toNat) (by omega) g2) ?_
    walk_at "xx"
    refine s_cut (fun σ' H' => σ' = [some (.ref x), some (.ref da), some (.int df.1), some (.int df.2.1), some (.int df.2.2), some (.int ds.length), some (yb), none] ∧ H' = H1 ∧ ringOf M df = none) ?_ (fun σ' H' p => ?_)
    · walk_at "xx"
      cases e : cell M df.2.1.toNat df.1.toNat with
      | none =>
        cases cellN tb e
        walk_at "xx"
        refine ⟨rfl, rfl, ?_⟩
        unfold ringOf
        rw [e]
      | some p =>
        obtain ⟨c1', c2', rfl, ec1, ec2⟩ := cellS tb e
        walk_at "xx"
        refine iteD (fun e2 => ?_) (fun e2 => ?_)
        · walk_at "xx"
          refine k_st (.inr (tup_of ec2)) ?_
          walk_at "xx"
          have lp : p.2.length ≤ L := by
            obtain ⟨row, h1, h2⟩ := cell_at hs.sq (i := df.2.1.toNat) (j := df.1.toNat) (by omega) (by omega)
            rw [e] at h2
            exact hsh _ (List.mem_of_getElem? h1) p (List.mem_of_getElem? h2)
          have hz : sizeLine = 16777216 := sizeLine_eq
          refine n_obj (by simp only [List.length_cons, List.length_append, List.length_map, List.length_nil]; omega) fun rp H2 n2 s2 e3 => ?_
          refine qr p.2 ?_ rp H2 ((Chg.but c1 (by simp)).trans (Same.but s2)) ?_ (by rw [e3, List.append_nil]; rfl)
          · unfold ringOf
            rw [e]
            exact if_pos e2
          · cases hb : H rp with
            | none => rfl
            | some o =>
              by_cases q0 : rp = S.dl
              · rw [q0, e1] at n2
                cases n2
              · rw [c1.at hb q0] at n2
                cases n2
        · walk_at "xx"
          refine ⟨rfl, rfl, ?_⟩
          unfold ringOf
          rw [e]
          exact if_neg e2
    obtain ⟨rfl, rfl, hrn⟩ := p
    have qn := qn hrn
    clear qr tb g2 tv ev g1
    obtain ⟨ru, cu, g1, ev, tv, lcu⟩ := hs1.get (u := df.1.toNat) (by omega)
    obtain ⟨yh, g2, th⟩ := row_cell hs.sq (u := df.1.toNat) (v := df.2.1.toNat) (by omega) (by omega) tv
    walk_at "xx"
    refine o_ixL (lst_of et1) (atI_of (j := df.1.toNat) (by omega) (v := .ref ru) (by rw [List.getElem?_map, g1]; rfl)) ?_
    walk_at "xx"
    refine o_ixL (lst_of ev) (atI_of (j := df.2.1.toNat) (by omega) g2) ?_
    walk_at "xx"
    have keep0 : KeepBut [x, S.dl] H H' := Chg.but c1 (by simp)
    have back0 : ∀ b, H' b = none → H b = none := fun b hb => by
      cases hbb : H b with
      | none => rfl
      | some o =>
        by_cases q0 : b = S.dl
        · rw [q0, e1] at hb
          cases hb
        · rw [c1.at hbb q0] at hb
          cases hb
    have bringIt : ∀ (N : VK) (st : Addr) (H2 : Hp), Same H' H2 → Tp H2 (.ref st) (cellD (some (df.2.2, [(ds.length : Int)]))) → tieM M df ds.length = bring M df.1.toNat df.2.1.toNat (df.2.2, [(ds.length : Int)]) → (∀ v H3, Q .non H3 → N v H3) → spBring K [.ref x, .int df.1, .int df.2.1, .ref st] H2 N C8.E0 := fun N st H2 s2 t2 em hN =>
      ⟨x, st, S, n, ds ++ [df], M, df.1, df.2.1, _, L, rfl, hs1.same s2, t2, i0, i1, i2, i3, hn, hsh, by show 2 * L + 1 ≤ _; exact hL, fun H3 S' k3 s3 x1 x2 x3 x4 => hN _ _ (qn H3 S' (keep0.trans ((Same.but s2).trans (k3.mono (by simp)))) (em ▸ s3) x1 x2 (.inr (back0 _ (s2.free x3))) fun r hr => (x4 r hr).imp id fun h => back0 _ (s2.free h))⟩
    have idle : tieM M df ds.length = M → Q .non H' := fun em => qn H' S keep0 (by rw [em]; exact hs1) rfl rfl (.inl rfl) fun r hr => .inl hr
    refine s_cut (fun _ H' => Q .non H') ?_ (fun σ2 H2 p => ?_)
    · walk_at "xx"
      cases e : cell M df.1.toNat df.2.1.toNat with
      | none =>
        cases cellN th e
        walk_at "xx"
        rename_i p1 H2 n2 s2 e2 p2 H3 n3 s3 e3
        refine bringIt _ p2 H3 (s2.trans s3) (cellT e3 (s3 _ _ e2)) ?_ fun v H4 h => ?_
        · unfold tieM
          rw [e]
        · walk_at "xx"
          exact h
      | some p =>
        obtain ⟨c1', c2', rfl, ec1, ec2⟩ := cellS th e
        walk_at "xx"
        refine iteD (fun e2 => ?_) (fun e2 => ?_)
        · walk_at "xx"
          rename_i p1 H2 n2 s2 e2' p2 H3 n3 s3 e3
          refine bringIt _ p2 H3 (s2.trans s3) (cellT e3 (s3 _ _ e2')) ?_ fun v H4 h => ?_
          · unfold tieM
            rw [e]
            exact if_pos e2
          · walk_at "xx"
            exact h
        · walk_at "xx"
          refine idle ?_
          unfold tieM
          rw [e]
          exact if_neg e2
    · walk_at "xx"
      exact p
end
end K17
namespace K17
open PySem PySem.Spec PyProof.Rows L2 Wy WN WQ WS WC WE WB

-- WIDE
theorem run_gap {f : Int} {d : Df} {r : List Df} : ∀ {es : List Df} {l z s t : Int}, Path es l z s → d.1 ≠ z → runC (f, l, t) (es ++ d :: r) = none
  | _, _, _, _, t, .nil, h => by
    show (if d.1 = _ then _ else none) = none
    rw [if_neg h]
  | _, _, _, _, t, .cons p, h => by
    rw [List.cons_append]
    unfold runC
    rw [if_pos rfl]
    exact run_gap p h
theorem csum_out {ds : List Df} {ns : List Int} {i : Nat} {m : Int} (g : ns[i]? = some m) (h : inB ds.length m = false) : csum ds ns = none := by
  cases ns with
  | nil => cases g
  | cons n r =>
    rw [csum_cons, if_neg]
    intro e
    have := List.all_eq_true.mp e m (List.mem_of_getElem? g)
    rw [h] at this
    cases this
theorem csum_gap {ds : List Df} {ns : List Int} {i : Nat} {m u z s : Int} (p : Path ((ns.take i).map (dsAt ds)) u z s) (hi : 0 < i) (g : ns[i]? = some m) (h : (dsAt ds m).1 ≠ z) : csum ds ns = none := by
  cases ns with
  | nil => cases g
  | cons n r =>
    obtain ⟨k, rfl⟩ : ∃ k, i = k + 1 := ⟨i - 1, by omega⟩
    rw [List.take_succ_cons, List.map_cons] at p
    rw [List.getElem?_cons_succ] at g
    obtain ⟨hk, g⟩ := List.getElem?_eq_some_iff.mp g
    rw [csum_cons]
    split
    · have e : r = r.take k ++ m :: r.drop (k + 1) := by
        rw [← g, ← List.drop_eq_getElem_cons hk, List.take_append_drop]
      rw [e, List.map_append, List.map_cons]
      generalize dsAt ds n = d at p
      obtain ⟨a, b, c⟩ := d
      cases p with
      | cons p => exact run_gap p h
    · rfl
def SumI (ds : List Df) (ns : List Int) (i : Nat) (t : Int) : Prop := (∀ j m, j < i → ns[j]? = some m → 0 ≤ m ∧ m < ds.length) ∧ (i = 0 ∧ t = 0 ∨ 0 < i ∧ Path ((ns.take i).map (dsAt ds)) (dsAt ds (ns.getD 0 0)).1 (dsAt ds (ns.getD (i - 1) 0)).2.1 t)
theorem SumI.next {ds : List Df} {ns : List Int} {i : Nat} {t m : Int} (h : SumI ds ns i t) (g : ns[i]? = some m) (h0 : 0 ≤ m) (h1 : m < ds.length) (k : 0 < i → (dsAt ds (ns.getD (i - 1) 0)).2.1 = (dsAt ds m).1) : SumI ds ns (i + 1) (t + (dsAt ds m).2.2) := by
  have gd : ns.getD i 0 = m := by rw [List.getD_eq_getElem?_getD, g]; rfl
  refine ⟨fun j x hj gx => ?_, .inr ⟨Nat.succ_pos _, ?_⟩⟩
  · by_cases e : j = i
    · subst e
      rw [g] at gx
      cases gx
      exact ⟨h0, h1⟩
    · exact h.1 j x (by omega) gx
  · rw [Nat.add_sub_cancel, gd, List.take_succ, g, List.map_append]
    rcases h.2 with ⟨e1, e2⟩ | ⟨e1, p⟩
    · subst e1 e2
      rw [gd, Int.zero_add]
      exact Path.one
    · refine p.app ?_
      rw [k e1]
      exact Path.one
section
variable {P : Program} {w : World} {K : PySem.W.Frag} {mg : Str → Option Value} {base : Heap}
theorem k_law_sum (T : Tx K mg) : C8.Cal P w K mg base 1 "_law_sum" (spChain K) [] := by
  refine cal_of (N := n_law_sum) T.d_law_sum sc_law_sum (fun _ _ F => F.bindsN fun _ _ _ _ _ _ us hl => match us, hl with | [_, _], _ => rfl) (fun vs H Q E h => ?_) (fun f cdv A outer s H vs Q E hr h => ?_)
  · obtain ⟨a, b, us, ds, ns, rfl, _⟩ := h
    rfl
  · obtain ⟨a, b, us, ds, ns, rfl, hA, tA, hB, ld, ln, qn, qs⟩ := h
    refine ⟨_, (pss_cons (ps_if (pt_cmpR (op_eq2 hr.units : OpR _ _ (rEq2 K)) (pe_callB (call_len2 : CallR _ _ (rLn K)) (by rfl) T.z_len (by decide +kernel) (pa_cons (pv 1) pa_nil)) pe_int (nomark _)) (pss_one (ps_ret pe_non)) pss_nil) (pss_cons (ps_asg pe_int (pg_name (i := 2) sc_law_sum.nd rfl (Or.inl rfl))) (pss_cons (ps_for PassesOwn.never rfl (pi_range1 (by rfl) T.z_range (pa_cons (pe_callB (call_len2 : CallR _ _ (rLn K)) (by rfl) T.z_len (by decide +kernel) (pa_cons (pv 1) pa_nil)) pa_nil)) (pg_name (i := 3) sc_law_sum.nd rfl (Or.inl rfl)) (pss_cons (ps_if (PW.pt (pw_or (pt_cmpR op_lt (pe_ix (ix_seq : IxR _ (rIx K)) (pv 1) (pv 3) (fun _ _ => rfl)) pe_int (nomark _)) (pw_or1 (pt_cmpR op_ge (pe_ix (ix_seq : IxR _ (rIx K)) (pv 1) (pv 3) (fun _ _ => rfl)) (pe_callB (call_len2 : CallR _ _ (rLn K)) (by rfl) T.z_len (by decide +kernel) (pa_cons (pv 0) pa_nil)) (nomark _))))) (pss_one (ps_ret pe_non)) pss_nil) (pss_cons (ps_if (PW.pt (pw_and (pt_cmpR op_gt (pv 3) pe_int (nomark _)) (pw_and1 (pt_cmpR (op_ne2 hr.units : OpR _ _ (rNe2 K)) (pe_ix (ix_seq : IxR _ (rIx K)) (pe_ix (ix_seq : IxR _ (rIx K)) (pv 0) (pe_ix (ix_seq : IxR _ (rIx K)) (pv 1) (pe_op op_sub (pv 3) pe_int) (fun _ _ => rfl)) (fun _ _ => rfl)) pe_int (fun _ _ => rfl)) (pe_ix (ix_seq : IxR _ (rIx K)) (pe_ix (ix_seq : IxR _ (rIx K)) (pv 0) (pe_ix (ix_seq : IxR _ (rIx K)) (pv 1) (pv 3) (fun _ _ => rfl)) (fun _ _ => rfl)) pe_int (fun _ _ => rfl)) (nomark _))))) (pss_one (ps_ret pe_non)) pss_nil) (pss_one (ps_asg (pe_op op_add3 (pv 2) (pe_ix (ix_seq : IxR _ (rIx K)) (pe_ix (ix_seq : IxR _ (rIx K)) (pv 0) (pe_ix (ix_seq : IxR _ (rIx K)) (pv 1) (pv 3) (fun _ _ => rfl)) (fun _ _ => rfl)) pe_int (fun _ _ => rfl))) (pg_name (i := 2) sc_law_sum.nd rfl (Or.inl rfl))))))) (pss_one (ps_ret (pe_tup (pa_cons (pe_ix (ix_seq : IxR _ (rIx K)) (pe_ix (ix_seq : IxR _ (rIx K)) (pv 0) (pe_ix (ix_seq : IxR _ (rIx K)) (pv 1) pe_int (fun _ _ => rfl)) (fun _ _ => rfl)) pe_int (fun _ _ => rfl)) (pa_cons (pe_ix (ix_seq : IxR _ (rIx K)) (pe_ix (ix_seq : IxR _ (rIx K)) (pv 0) (pe_ix (ix_seq : IxR _ (rIx K)) (pv 1) (pe_un un_neg pe_int) (fun _ _ => rfl)) (fun _ _ => rfl)) pe_int (fun _ _ => rfl)) (pa_cons (pv 2) pa_nil))))))))), ?_⟩
    have lu := tA.length
    rw [List.length_map] at lu
    have get : ∀ {H2 : Hp} {x : Int}, TpAll H2 us (ds.map dfD) → 0 ≤ x → x < ds.length → ∃ p, us[x.toNat]? = some (.ref p) ∧ H2 p = some (.tup [.int (dsAt ds x).1, .int (dsAt ds x).2.1, .int (dsAt ds x).2.2]) := fun {H2 x} t h1 h2 => by
      have gd : ds[x.toNat]? = some (dsAt ds x) := by
        unfold dsAt
        rw [List.getD_eq_getElem?_getD, List.getElem?_eq_getElem (by omega)]
        rfl
      obtain ⟨u, gu, tu⟩ := tpAt t gd
      obtain ⟨p, _, _, _, rfl, ep, t1, t2, t3⟩ := WQ.tp3 tu
      cases t1
      cases t2
      cases t3
      exact ⟨p, gu, ep⟩
    walk_at "xx"
    refine b_lenQ hB ?_
    rw [List.length_map]
    walk_at "xx"
    refine iteI (fun e => ?_) (fun e => ?_)
    · walk_at "xx"
      have : ns = [] := List.eq_nil_of_length_eq_zero (by omega)
      subst this
      exact qn rfl _ (Same.refl _)
    walk_at "xx"
    refine b_lenQ hB ?_
    rw [List.length_map]
    walk_at "xx"
    refine f_range (fun i σ H' => ∃ z2, ∃ t : Int, σ = [some (.ref a), some (.ref b), some (.int t), z2] ∧ Same H H' ∧ SumI ds ns i t)
      ⟨_, _, rfl, Same.refl _, fun _ _ h => absurd h (Nat.not_lt_zero _), .inl ⟨rfl, rfl⟩⟩ (fun i σ H3 hi p => ?_) (fun σ H3 p => ?_)
    · obtain ⟨z2, t, rfl, s3, inv⟩ := p
      have hi : i < ns.length := by omega
      have gi : ns[i]? = some ns[i] := List.getElem?_eq_getElem hi
      rw [Int.zero_add]
      generalize ns[i] = m at gi
      walk_at "xx"
      refine ix_intQ (hB.same s3) (by omega) (by omega) fun x gx => ?_
      rw [Int.toNat_natCast, gi] at gx
      cases gx
      walk_at "xx"
      have out : ∀ H2, Same H H2 → csum ds ns = none → Q .non H2 := fun H2 s2 e => qn e H2 s2
      refine iteD (fun e0 => ?_) (fun e0 => ?_)
      · walk_at "xx"
        exact out _ s3 (csum_out gi (by unfold inB; rw [decide_eq_false (by omega)]; rfl))
      walk_at "xx"
      refine ix_intQ (hB.same s3) (by omega) (by omega) fun x gx => ?_
      rw [Int.toNat_natCast, gi] at gx
      cases gx
      walk_at "xx"
      refine b_lenQ (hA.same s3) ?_
      walk_at "xx"
      refine iteD (fun e1 => ?_) (fun e1 => ?_)
      · walk_at "xx"
        exact out _ s3 (csum_out gi (by unfold inB; rw [decide_eq_false (show ¬ m < (ds.length : Int) by omega), Bool.and_false]))
      walk_at "xx"
      obtain ⟨pm, gpm, epm⟩ := get (tA.tk s3.tk) (x := m) (by omega) (by omega)
      refine iteD (fun e2 => ?_) (fun e2 => ?_)
      · have gj : ns[i - 1]? = some ns[i - 1] := List.getElem?_eq_getElem (by omega)
        have gd : ns.getD (i - 1) 0 = ns[i - 1] := by rw [List.getD_eq_getElem?_getD, gj]; rfl
        obtain ⟨r1, r2⟩ := inv.1 (i - 1) _ (by omega) gj
        have inv2 := inv.2
        generalize ns[i - 1] = l at gj r1 r2 gd
        rw [gd] at inv2
        obtain ⟨pl, gpl, epl⟩ := get (tA.tk s3.tk) (x := l) r1 r2
        walk_at "xx"
        refine ix_intQ (hB.same s3) (by omega) (by omega) fun x gx => ?_
        rw [show ((i : Int) - 1).toNat = i - 1 by omega, gj] at gx
        cases gx
        refine o_ixQ (hA.same s3) (atI_of (j := l.toNat) (by omega) gpl) ?_
        walk_at "xx"
        refine ix_intQ (hB.same s3) (by omega) (by omega) fun x gx => ?_
        rw [Int.toNat_natCast, gi] at gx
        cases gx
        refine o_ixQ (hA.same s3) (atI_of (j := m.toNat) (by omega) gpm) ?_
        walk_at "xx"
        refine iteNI (fun e3 => ?_) (fun e3 => ?_)
        · walk_at "xx"
          refine out _ s3 ?_
          rcases inv2 with ⟨h1, _⟩ | ⟨h1, pth⟩
          · omega
          · exact csum_gap pth h1 gi (fun e => e3 e.symm)
        · walk_at "xx"
          refine ix_intQ (hB.same s3) (by omega) (by omega) fun x gx => ?_
          rw [Int.toNat_natCast, gi] at gx
          cases gx
          refine o_ixQ (hA.same s3) (atI_of (j := m.toNat) (by omega) gpm) ?_
          walk_at "xx"
          exact ⟨_, _, rfl, s3, inv.next gi (by omega) (by omega) (fun _ => by rw [gd]; exact e3)⟩
      · walk_at "xx"
        refine ix_intQ (hB.same s3) (by omega) (by omega) fun x gx => ?_
        rw [Int.toNat_natCast, gi] at gx
        cases gx
        refine o_ixQ (hA.same s3) (atI_of (j := m.toNat) (by omega) gpm) ?_
        walk_at "xx"
        exact ⟨_, _, rfl, s3, inv.next gi (by omega) (by omega) (fun h => absurd h (by omega))⟩
    · obtain ⟨z2, t, rfl, s3, inv⟩ := p
      rw [Int.toNat_natCast] at inv
      rcases inv.2 with ⟨h1, _⟩ | ⟨h1, pth⟩
      · omega
      have n0 : ns[0]? = some ns[0] := List.getElem?_eq_getElem h1
      have n1 : ns[ns.length - 1]? = some ns[ns.length - 1] := List.getElem?_eq_getElem (by omega)
      have d0 : ns.getD 0 0 = ns[0] := by rw [List.getD_eq_getElem?_getD, n0]; rfl
      have d1 : ns.getD (ns.length - 1) 0 = ns[ns.length - 1] := by rw [List.getD_eq_getElem?_getD, n1]; rfl
      obtain ⟨r1, r2⟩ := inv.1 _ _ h1 n0
      obtain ⟨r3, r4⟩ := inv.1 _ _ (by omega) n1
      rw [d0, d1, List.take_length] at pth
      have ec := csum_path (ds := ds) (ns := ns) (fun x hx => by
        obtain ⟨j, gj⟩ := List.getElem?_of_mem hx
        exact inv.1 j x (List.getElem?_eq_some_iff.mp gj).1 gj) pth (fun e => by rw [e] at h1; exact absurd h1 (Nat.not_lt_zero _))
      generalize ns[0] = m0 at n0 d0 r1 r2 ec pth
      generalize hm1 : ns[ns.length - 1] = m1 at n1 d1 r3 r4 ec pth
      obtain ⟨p0, gp0, ep0⟩ := get (tA.tk s3.tk) (x := m0) r1 r2
      obtain ⟨p1, gp1, ep1⟩ := get (tA.tk s3.tk) (x := m1) r3 r4
      walk_at "xx"
      refine ix_intQ (hB.same s3) (by omega) (by omega) fun x gx => ?_
      rw [show (0 : Int).toNat = 0 from rfl, n0] at gx
      cases gx
      refine o_ixQ (hA.same s3) (atI_of (j := m0.toNat) (by omega) gp0) ?_
      walk_at "xx"
      have es : ns.map V.int = (ns.take (ns.length - 1)).map V.int ++ [.int m1] := by
        have := List.take_succ (l := ns) (i := ns.length - 1)
        rw [n1, show ns.length - 1 + 1 = ns.length by omega, List.take_length] at this
        conv =>
          lhs
          rw [this, List.map_append]
        rfl
      refine o_ixQ (hB.same s3) (v := .int m1) (by rw [es]; exact atI_last _ _) ?_
      refine o_ixQ (hA.same s3) (atI_of (j := m1.toNat) (by omega) gp1) ?_
      walk_at "xx"
      rename_i p H4 n4 s4 e4
      exact qs _ ec _ _ (s3.trans s4) (s3.free n4) e4
end
end K17
namespace K17
open PySem PySem.Spec PyProof.Rows L2 Wy WN WQ WS WC WE WO WT WP

-- WIDE
/-- the cells of the first row, but the first -/
def row1 (M : Tab) : List Cell := (M.getD 0 []).drop 1
def allC (M : Tab) : Bool := (row1 M).all (·.isSome)
def spFloors (K : PySem.W.Frag) : Sp := fun vs H Q _ => ∃ (x : Addr) (S : Spot) (n : Nat) (ds : List Df) (M : Tab), vs = [.ref x] ∧ SysAt K H x S n ds M ∧ n ≤ 1000 ∧
  (allC M = false → ∀ H', Same H H' → Q .non H') ∧ (allC M = true → ∀ p cs H', Same H H' → H p = none → H' p = some (.tup cs) → TpAll H' cs ((row1 M).map fun c => iT (c.getD (0, [])).2) → Q (.ref p) H')
def spLeastV (K : PySem.W.Frag) : Sp := fun vs H Q _ => ∃ (x : Addr) (S : Spot) (n : Nat) (ds : List Df) (M : Tab), vs = [.ref x] ∧ SysAt K H x S n ds M ∧ n ≤ 1000 ∧
  (allC M = false → ∀ H', Same H H' → Q .non H') ∧ (allC M = true → ∀ p H', Same H H' → H p = none → H' p = some (.lst (((row1 M).map fun c => -(c.getD (0, [])).1).map V.int)) → Q (.ref p) H')
theorem any_none {cs : List Cell} : ((cs.map cellD).any fun z => PyData.eqv z .none) = !cs.all (·.isSome) := by
  induction cs with
  | nil => rfl
  | cons c r ih =>
    rw [List.map_cons, List.any_cons, ih, List.all_cons]
    cases c with
    | none => rfl
    | some p => rfl
theorem cells_shaped {cs : List Cell} : SeqAt.shaped (.list (cs.map cellD)) = true := shL cellD cs 2 (by decide) fun c _ => by
  cases c with
  | none => exact ⟨rfl, by decide⟩
  | some p =>
    refine lay_tup (n := 1) fun x hx => ?_
    simp only [List.mem_cons, List.not_mem_nil, or_false] at hx
    rcases hx with rfl | rfl
    · exact ⟨(lay_int _).1, Nat.le_trans (lay_int _).2 (by decide)⟩
    · exact iT_lay _
theorem range_get {α β : Type} (F : α → β) (d : α) (xs : List α) : ((List.range xs.length).map fun j => F (xs.getD j d)) = xs.map F := by
  refine List.ext_getElem? fun j => ?_
  rw [List.getElem?_map, List.getElem?_map]
  by_cases hj : j < xs.length
  · rw [List.getElem?_range hj, List.getElem?_eq_getElem hj]
    show some (F (xs.getD j d)) = some (F xs[j])
    rw [List.getD_eq_getElem?_getD, List.getElem?_eq_getElem hj]
    rfl
  · rw [List.getElem?_eq_none (by rw [List.length_range]; omega), List.getElem?_eq_none (by omega)]
    rfl
theorem tpDrop {H : Hp} : ∀ {i : Nat} {us : List V} {ds : List PyData}, TpAll H us ds → TpAll H (us.drop i) (ds.drop i)
  | 0, _, _, t => t
  | _ + 1, _, _, .nil => .nil
  | i + 1, _, _, .cons _ t => tpDrop (i := i) t
section
variable {P : Program} {w : World} {K : PySem.W.Frag} {mg : Str → Option Value} {base : Heap}
theorem k_System_floors (T : Tx K mg) : C8.Met P w K mg base 1 (He.ga K "System") "floors" (spFloors K) [] := by
  refine met_of (N := n_System_floors) T.d_System_floors T.c_System sc_System_floors (fun _ _ F => F.bindsN fun _ _ _ _ _ _ us hl => match us, hl with | [_], _ => rfl) (fun vs H Q E h => ?_) (fun f cdv A outer s H vs Q E hr h => ?_)
  · obtain ⟨x, S, n, ds, M, rfl, _⟩ := h
    rfl
  · obtain ⟨x, S, n, ds, M, rfl, hs, hn, qn, qs⟩ := h
    refine ⟨_, (pss_cons (ps_asg (pe_slice (sl_2 : SlR _ (rSl2 K)) (pe_ix (ix_seq : IxR _ (rIx K)) (WO.pe_fldK (K := K) (pv 0)) pe_int (fun _ _ => rfl)) (po_some pe_int) po_none) (pg_name (i := 1) sc_System_floors.nd rfl (Or.inl rfl))) (pss_one (ps_ret (pe_ifExp (pt_cmpR (op_inD (WP.room65 hr) : OpR _ _ (rInD K)) pe_non (pv 1) (by rfl)) pe_non (pe_callTy (W6.call_tup2 : CallR _ _ (W6.rTup K)) (by rfl) T.z_tuple (by decide +kernel) (pa_cons (pe_lc (own := [("c", 2), ("chain", 3)]) (g := (gTup K 2 (gCons (gName 2) (gCons (gName 3) (gNil))))) (tt := tYes) (by rfl) sc_System_floors.nd (pi_list (pv 1) : PI _ _ _ (iList K _)) (blkOk_by (own := [("c", 2), ("chain", 3)]) (N := n_System_floors) (sc := defScope s_System_floors) (by decide +kernel)) (fun _ _ _ _ _ => pg_tup (by rfl) (pgs_cons (pg_name (i := 2) sc_System_floors.nd rfl (Or.inl rfl)) (pgs_cons (pg_name (i := 3) sc_System_floors.nd rfl (Or.inl rfl)) pgs_nil))) (fun _ _ _ _ _ => pts_nil) (fun _ _ _ _ _ => (pv 3))) pa_nil)))))), ?_⟩
    have cl := T.c_System
    have a3 := T.a_System__table
    have hx := hs.ins
    obtain ⟨r, cs, g1, er, tr, lc⟩ := hs.get (u := 0) (by omega)
    walk_at "xx"
    refine o_ixL (lst_of hs.tab) (atI_of (j := 0) (by omega) (v := .ref r) (by rw [List.getElem?_map, g1]; rfl)) ?_
    walk_at "xx"
    rename_i kp H1 n1 s1 e1
    rw [cut1] at e1
    have lr : cs.length = (M.getD 0 []).length := by
      have := tr.length
      rw [List.length_map] at this
      exact this
    have t1 : TpAll H1 (cs.drop 1) ((row1 M).map cellD) := by
      unfold row1
      rw [List.map_drop]
      exact tpDrop (tr.tk s1.tk)
    have lc1 : (cs.drop 1).length = (row1 M).length := by
      have := t1.length
      rw [List.length_map] at this
      exact this
    refine ⟨.none, (row1 M).map cellD, .non, .lst (lst_of e1) t1.dp, by decide +kernel, cells_shaped, ?_⟩
    rw [any_none]
    cases ha : allC M with
    | false =>
      rw [show (row1 M).all (·.isSome) = false from ha]
      walk_at "xx"
      exact qn ha _ s1
    | true =>
      rw [show (row1 M).all (·.isSome) = true from ha]
      walk_at "xx"
      have lM : (row1 M).length ≤ 1000 := by
        unfold row1
        rw [List.length_drop]
        have := hs.sq.2 _ (List.mem_of_getElem? (row_of hs.sq (Nat.zero_le n)))
        omega
      refine c_acc (xs := cs.drop 1) (.inl ⟨rfl, lst_of e1⟩) (One fun j y H => Tp H y (iT (((row1 M).getD j none).getD (0, [])).2)) (fun i acc H H' k h => ⟨h.1, fun j y e => (h.2 j y e).tk k⟩) (fun i acc H hi h => small1000' (by rw [h.1]; omega)) One.zero (fun j y H3 acc N M' hy s3 o hN hM => ?_) (fun D H3 ys nD s3 e3 o => ?_)
      · obtain ⟨c, hc, tc⟩ := tpGet (t1.tk s3.tk) hy
        have hsome : c.isSome = true := List.all_eq_true.mp ha c (List.mem_of_getElem? hc)
        obtain ⟨p, rfl⟩ := Option.isSome_iff_exists.mp hsome
        obtain ⟨a, b, rfl, ea, eb⟩ := cellS tc rfl
        walk_at "xx"
        refine ⟨rfl, ?_⟩
        walk_at "xx"
        refine hN _ _ (Same.refl _) (o.snoc (fun _ _ h => h) ?_)
        rw [List.getD_eq_getElem?_getD, hc]
        exact iT_tp eb
      · have tp := tpOne o fun j y _ h => h
        rw [lc1, range_get (fun c : Cell => iT (c.getD (0, [])).2) none (row1 M)] at tp
        walk_at "xx"
        refine tp_new (lst_of e3) fun p H4 n4 s4 e4 => ?_
        exact qs ha p ys H4 (s1.trans (s3.trans s4)) ((s1.trans s3).free n4) e4 (tp.tk s4.tk)
theorem k_System_least_values (T : Tx K mg) : C8.Met P w K mg base 1 (He.ga K "System") "least_values" (spLeastV K) [] := by
  refine met_of (N := n_System_least_values) T.d_System_least_values T.c_System sc_System_least_values (fun _ _ F => F.bindsN fun _ _ _ _ _ _ us hl => match us, hl with | [_], _ => rfl) (fun vs H Q E h => ?_) (fun f cdv A outer s H vs Q E hr h => ?_)
  · obtain ⟨x, S, n, ds, M, rfl, _⟩ := h
    rfl
  · obtain ⟨x, S, n, ds, M, rfl, hs, hn, qn, qs⟩ := h
    refine ⟨_, (pss_cons (ps_asg (pe_slice (sl_2 : SlR _ (rSl2 K)) (pe_ix (ix_seq : IxR _ (rIx K)) (WO.pe_fldK (K := K) (pv 0)) pe_int (fun _ _ => rfl)) (po_some pe_int) po_none) (pg_name (i := 1) sc_System_least_values.nd rfl (Or.inl rfl))) (pss_one (ps_ret (pe_ifExp (pt_cmpR (op_inD (WP.room65 hr) : OpR _ _ (rInD K)) pe_non (pv 1) (by rfl)) pe_non (pe_lc (own := [("c", 2), ("chain", 3)]) (g := (gTup K 2 (gCons (gName 2) (gCons (gName 3) (gNil))))) (tt := tYes) (by rfl) sc_System_least_values.nd (pi_list (pv 1) : PI _ _ _ (iList K _)) (blkOk_by (own := [("c", 2), ("chain", 3)]) (N := n_System_least_values) (sc := defScope s_System_least_values) (by decide +kernel)) (fun _ _ _ _ _ => pg_tup (by rfl) (pgs_cons (pg_name (i := 2) sc_System_least_values.nd rfl (Or.inl rfl)) (pgs_cons (pg_name (i := 3) sc_System_least_values.nd rfl (Or.inl rfl)) pgs_nil))) (fun _ _ _ _ _ => pts_nil) (fun _ _ _ _ _ => (pe_un un_neg (pv 2)))))))), ?_⟩
    have cl := T.c_System
    have a3 := T.a_System__table
    have hx := hs.ins
    obtain ⟨r, cs, g1, er, tr, lc⟩ := hs.get (u := 0) (by omega)
    walk_at "xx"
    refine o_ixL (lst_of hs.tab) (atI_of (j := 0) (by omega) (v := .ref r) (by rw [List.getElem?_map, g1]; rfl)) ?_
    walk_at "xx"
    rename_i kp H1 n1 s1 e1
    rw [cut1] at e1
    have t1 : TpAll H1 (cs.drop 1) ((row1 M).map cellD) := by
      unfold row1
      rw [List.map_drop]
      exact tpDrop (tr.tk s1.tk)
    have lc1 : (cs.drop 1).length = (row1 M).length := by
      have := t1.length
      rw [List.length_map] at this
      exact this
    refine ⟨.none, (row1 M).map cellD, .non, .lst (lst_of e1) t1.dp, by decide +kernel, cells_shaped, ?_⟩
    rw [any_none]
    cases ha : allC M with
    | false =>
      rw [show (row1 M).all (·.isSome) = false from ha]
      walk_at "xx"
      exact qn ha _ s1
    | true =>
      rw [show (row1 M).all (·.isSome) = true from ha]
      walk_at "xx"
      have lM : (row1 M).length ≤ 1000 := by
        unfold row1
        rw [List.length_drop]
        have := hs.sq.2 _ (List.mem_of_getElem? (row_of hs.sq (Nat.zero_le n)))
        omega
      refine c_acc (xs := cs.drop 1) (.inl ⟨rfl, lst_of e1⟩) (One fun j y _ => y = .int (-(((row1 M).getD j none).getD (0, [])).1)) (fun _ _ _ _ _ h => h) (fun i acc H hi h => small1000' (by rw [h.1]; omega)) One.zero (fun j y H3 acc N M' hy s3 o hN hM => ?_) (fun D H3 ys nD s3 e3 o => ?_)
      · obtain ⟨c, hc, tc⟩ := tpGet (t1.tk s3.tk) hy
        have hsome : c.isSome = true := List.all_eq_true.mp ha c (List.mem_of_getElem? hc)
        obtain ⟨p, rfl⟩ := Option.isSome_iff_exists.mp hsome
        obtain ⟨a, b, rfl, ea, eb⟩ := cellS tc rfl
        walk_at "xx"
        refine ⟨rfl, ?_⟩
        walk_at "xx"
        refine hN _ _ (Same.refl _) (o.snoc (fun _ _ h => h) ?_)
        rw [List.getD_eq_getElem?_getD, hc]
        rfl
      · have ey := o.eqR fun j y _ h => h
        rw [lc1, range_get (fun c : Cell => V.int (-(c.getD (0, [])).1)) none (row1 M)] at ey
        walk_at "xx"
        exact qs ha D H3 (s1.trans s3) (s1.free nD) (by rw [e3, ey, List.map_map]; rfl)
/-- a twin: the same table, a list of differences of its own -/
def spTwin (K : PySem.W.Frag) : Sp := fun vs H Q _ => ∃ (x : Addr) (S : Spot) (n : Nat) (ds : List Df) (M : Tab), vs = [.ref x] ∧ SysAt K H x S n ds M ∧ n ≤ 1000 ∧ ds.length ≤ 1000 ∧
  ∀ y S' H', Same H H' → SysAt K H' y S' n ds M → H y = none → H S'.dl = none → S'.tp = S.tp → S'.rs = S.rs → Q (.ref y) H'
theorem k_System_twin (T : Tx K mg) : C8.Met P w K mg base 3 (He.ga K "System") "twin" (spTwin K) [] := by
  refine met_of (N := n_System_twin) T.d_System_twin T.c_System sc_System_twin (fun _ _ F => F.bindsN fun _ _ _ _ _ _ us hl => match us, hl with | [_], _ => rfl) (fun vs H Q E h => ?_) (fun f cdv A outer s H vs Q E hr h => ?_)
  · obtain ⟨x, S, n, ds, M, rfl, _⟩ := h
    rfl
  · obtain ⟨x, S, n, ds, M, rfl, hs, hn, hd, q⟩ := h
    refine ⟨_, (pss_cons (ps_asg (C8.pe_mk (k_System___init (K := K) T) hr (by first | decide | omega) (by rfl) (pa_cons (WO.pe_fldK (K := K) (pv 0)) pa_nil)) (pg_name (i := 1) sc_System_twin.nd rfl (Or.inl rfl))) (pss_cons (WO.ps_fldK (K := K) (pv 1) (pe_callTy (call_lst : CallR _ _ (rLst K)) (by rfl) T.z_list (by decide +kernel) (pa_cons (WO.pe_fldK (K := K) (pv 0)) pa_nil))) (pss_cons (WO.ps_fldK (K := K) (pv 1) (WO.pe_fldK (K := K) (pv 0))) (pss_one (ps_ret (pv 1)))))), ?_⟩
    have cl := T.c_System
    have a3 := T.a_System__table
    have a1 := T.a_System_many
    have a2 := T.a_System_differences
    have hx := hs.ins
    obtain ⟨us, ed, td⟩ := hs.diffs
    walk_at "xx"

    refine k_make fun y dy H1 ny nd _ s1 e1 _ => ?_
    refine ⟨y, dy, n, rfl, e1, by omega, fun H2 S2 k2 hs2 hdx nl _ _ => ⟨rfl, ?_⟩⟩
    have s2 : Same H H2 := fun b o e => k2 b o (fun h => by rw [List.mem_singleton.mp h, ny] at e; cases e) (s1 _ _ e)
    have hy := hs2.ins
    have hx2 := s2 _ _ hx
    walk_at "xx"

    refine ls_new (lst_of (s2 _ _ ed)) fun D H3 n3 s3 e3 => ?_
    walk_at "xx"
    refine k_fldS (s3 _ _ hy) cl a2 (Nat.lt_of_sub_eq_succ rfl) fun H4 c4 e4 => ?_
    have e4 : H4 y = some (.ins (He.ga K "System") S2.dx [("many", .int n), ("differences", .ref D), ("_table", .ref S2.tp)]) := e4
    have s4 : Same H H4 := c4.same (s2.trans s3) ny
    have f4 : H4 D = some (.lst us) := c4.at e3 (ne_of e3 (s3 _ _ hy) (by intro z; cases z))
    have hx4 := s4 _ _ hx
    walk_at "xx"

    refine k_fldS e4 cl a3 (Nat.lt_of_sub_eq_succ rfl) fun H5 c5 e5 => ?_
    have e5 : H5 y = some (.ins (He.ga K "System") S2.dx (sysFs ⟨S2.dx, D, S.tp, S.rs⟩ n)) := e5
    have s5 : Same H H5 := c5.same s4 ny
    have f5 : H5 D = some (.lst us) := c5.at f4 (ne_of f4 e4 (by intro z; cases z))
    have nD : H D = none := s2.free n3
    walk_at "xx"
    have hs5 := hs.same s5
    refine q y ⟨S2.dx, D, S.tp, S.rs⟩ H5 s5 ⟨e5, ⟨us, f5, td.tk s5.tk⟩, hs5.tab, hs5.len, hs5.rows, fun h => ?_, fun h => ?_, hs.sq⟩ ny nD rfl rfl
    · obtain ⟨i, hi, e⟩ := List.getElem_of_mem h
      have hi' : i < S.rs.length := hi
      have hM : i < M.length := by
        have := hs.len
        omega
      obtain ⟨cs, ec, _⟩ := hs.rows i _ _ (List.getElem?_eq_getElem hi) (List.getElem?_eq_getElem hM)
      rw [e] at ec
      rw [ec] at nD
      cases nD
    · have h : D = S.tp := h
      have := hs.tab
      rw [← h, nD] at this
      cases this
end
end K17
namespace K17
open PySem PySem.Spec PyProof.Rows L2 Wy WN WQ WS WC WE WO WT WP

-- WIDE
section
variable {P : Program} {w : World} {K : PySem.W.Frag} {mg : Str → Option Value} {base : Heap}
def spNums : Sp := fun vs H Q _ => ∃ (a : Addr) (ns : List Int), vs = [.ref a] ∧ H a = some (.tup (ns.map V.int)) ∧ ns.length ≤ 100000 ∧ ∀ H', Same H H' → Q (.bl true) H'
theorem k_law_are_numbers (T : Tx K mg) : C8.Cal P w K mg base 2 "_law_are_numbers" spNums [] := by
  refine cal_of (N := n_law_are_numbers) T.d_law_are_numbers sc_law_are_numbers (fun _ _ F => F.bindsN fun _ _ _ _ _ _ us hl => match us, hl with | [_], _ => rfl) (fun vs H Q E h => ?_) (fun f cdv A outer s H vs Q E hr h => ?_)
  · obtain ⟨a, ns, rfl, _⟩ := h
    rfl
  · obtain ⟨a, ns, rfl, hA, hl, q⟩ := h
    refine ⟨_, (pss_one (ps_ret (pe_and (pe_callB (call_isi2 : CallR _ _ (rIsi2 K)) (by rfl) T.z_isinstance (by decide +kernel) (pa_cons (pv 0) (pa_cons (pe_bltn (v := .ty "tuple") (by rfl) T.z_tuple (by decide +kernel) rfl) pa_nil))) (pe_one (pe_callC cc_all (by rfl) T.z_all (by decide +kernel) (pa_cons (pe_lc (own := [("number", 1)]) (g := gName 1) (tt := tYes) (by rfl) sc_law_are_numbers.nd (pi_tup (pv 0) : PI _ _ _ (iTup K _)) (blkOk_by (own := [("number", 1)]) (N := n_law_are_numbers) (sc := defScope s_law_are_numbers) (by decide +kernel)) (fun _ _ _ _ _ => pg_name (i := 1) sc_law_are_numbers.nd rfl (Or.inl rfl)) (fun _ _ _ _ _ => pts_nil) (fun _ _ _ _ _ => (C8.pe_c (k_law_is_integer T) hr (by first | decide | omega) (by rfl) (pa_cons (pv 1) pa_nil)))) pa_nil)))))), ?_⟩
    walk_at "xx"
    refine c_acc (xs := ns.map V.int) (.inr ⟨rfl, tup_of hA⟩) (One fun _ y _ => y = .bl true) (fun _ _ _ _ _ h => h) (fun i acc H hi h => small1000' (by rw [h.1]; rw [List.length_map] at hi; omega)) One.zero (fun j x H1 acc N M hx s1 o hN hM => ?_) (fun D H1 ys nD s1 e1 o => ?_)
    · rw [List.getElem?_map] at hx
      obtain ⟨k, gk, rfl⟩ := Option.map_eq_some_iff.mp hx
      walk_at "xx"
      refine ⟨rfl, ?_⟩
      walk_at "xx"
      refine ⟨k, rfl, ?_⟩
      exact hN _ _ (Same.refl _) (o.snoc (fun _ _ h => h) rfl)
    · walk_at "xx"
      refine b_allT (lst_of e1) (fun j y e => o.2 j y e) ?_
      exact q _ s1
/-- a ring by its numbers -/
def spIsRing (K : PySem.W.Frag) : Sp := fun vs H Q _ => ∃ (a b : Addr) (us : List V) (ds : List Df) (ns : List Int) (u s : Int), vs = [.ref a, .ref b] ∧ Sq K H a us ∧ TpAll H us (ds.map dfD) ∧ H b = some (.tup (ns.map V.int)) ∧ ds.length ≤ 1000 ∧ ns.length ≤ 1000 ∧ csum ds ns = some (u, u, s) ∧ s < 0 ∧ ∀ H', Same H H' → Q (.bl true) H'
theorem k_law_is_ring (T : Tx K mg) : C8.Cal P w K mg base 3 "_law_is_ring" (spIsRing K) [] := by
  refine cal_of (N := n_law_is_ring) T.d_law_is_ring sc_law_is_ring (fun _ _ F => F.bindsN fun _ _ _ _ _ _ us hl => match us, hl with | [_, _], _ => rfl) (fun vs H Q E h => ?_) (fun f cdv A outer s H vs Q E hr h => ?_)
  · obtain ⟨a, b, us, ds, ns, u, s, rfl, _⟩ := h
    rfl
  · obtain ⟨a, b, us, ds, ns, u, s0, rfl, hA, tA, hB, ld, ln, ec, hs, q⟩ := h
    refine ⟨_, (pss_cons (ps_if (pt_not (pt_tr (C8.pe_c (k_law_are_numbers T) hr (by first | decide | omega) (by rfl) (pa_cons (pv 1) pa_nil)) : PT _ _ (tTr K _))) (pss_one (ps_ret pe_bl)) pss_nil) (pss_cons (ps_asg (C8.pe_c (k_law_sum T) hr (by first | decide | omega) (by rfl) (pa_cons (pv 0) (pa_cons (pv 1) pa_nil))) (pg_name (i := 2) sc_law_is_ring.nd rfl (Or.inl rfl))) (pss_one (ps_ret (pe_and (pe_cmpR op_ntN2 (pv 2) pe_non (nomark _)) (pe_and (pe_cmpR (op_eq2 hr.units : OpR _ _ (rEq2 K)) (pe_ix (ix_seq : IxR _ (rIx K)) (pv 2) pe_int (fun _ _ => rfl)) (pe_ix (ix_seq : IxR _ (rIx K)) (pv 2) pe_int (fun _ _ => rfl)) (nomark _)) (pe_one (pe_cmpR op_lt (pe_ix (ix_seq : IxR _ (rIx K)) (pv 2) pe_int (fun _ _ => rfl)) pe_int (nomark _))))))))), ?_⟩
    walk_at "xx"
    refine ⟨b, ns, rfl, hB, by omega, fun H1 s1 => ?_⟩
    walk_at "xx"
    refine ⟨a, b, us, ds, ns, rfl, hA.same s1, tA.tk s1.tk, .inr (tup_of (s1 _ _ hB)), ld, ln, fun e => absurd (ec.symm.trans e) (by simp), fun t e p H2 s2 n2 e2 => ?_⟩
    cases (ec.symm.trans e)
    walk_at "xx"
    refine iteTT (decide_eq_true rfl) ?_
    walk_at "xx"
    rw [decide_eq_true (show s0 < 0 from hs)]
    exact q _ (s1.trans s2)
end
/-! ### what is reached -/
structure Rc (ds : List Df) (rs : List Int) : Prop where
  nd : rs.Nodup
  zero : (0 : Int) ∈ rs
  path : ∀ x ∈ rs, ∃ es s, Path es 0 x s ∧ ∀ d ∈ es, d ∈ ds
def Closd (ds : List Df) (rs : List Int) : Prop := ∀ d ∈ ds, d.1 ∈ rs → d.2.1 ∈ rs
theorem closd_path {ds : List Df} {rs : List Int} (h : Closd ds rs) : ∀ {es : List Df} {u z s : Int}, Path es u z s → (∀ d ∈ es, d ∈ ds) → u ∈ rs → z ∈ rs
  | _, _, _, _, .nil, _, hu => hu
  | _, _, _, _, .cons p, hm, hu => closd_path h p (fun d hd => hm d (List.mem_cons_of_mem _ hd)) (h _ (hm _ List.mem_cons_self) hu)
theorem allC_iff {M : Tab} {n : Nat} (h : Sq2 M n) : allC M = true ↔ ∀ j, 1 ≤ j → j ≤ n → ∃ p, cell M 0 j = some p := by
  have l0 := h.2 _ (List.mem_of_getElem? (row_of h (Nat.zero_le n)))
  unfold allC row1
  rw [List.all_eq_true]
  constructor
  · intro ha j h1 h2
    have hj : j < (M.getD 0 []).length := by omega
    have hm : cell M 0 j ∈ (M.getD 0 []).drop 1 := by
      unfold cell
      rw [List.getD_eq_getElem?_getD (i := j), List.getElem?_eq_getElem hj]
      refine List.mem_of_getElem? (i := j - 1) ?_
      rw [List.getElem?_drop, show 1 + (j - 1) = j by omega, List.getElem?_eq_getElem hj]
      rfl
    exact Option.isSome_iff_exists.mp (ha _ hm)
  · intro ha c hc
    obtain ⟨j, gj⟩ := List.getElem?_of_mem hc
    rw [List.getElem?_drop] at gj
    have hj := (List.getElem?_eq_some_iff.mp gj).1
    obtain ⟨p, e⟩ := ha (1 + j) (by omega) (by omega)
    unfold cell at e
    rw [List.getD_eq_getElem?_getD (i := 1 + j), gj] at e
    have e : c = some p := e
    rw [e]
    rfl
theorem reached_all {n : Nat} {ds : List Df} {M : Tab} {rs : List Int} (h : Mean n ds M) (r : Rc ds rs) (f : Closd ds rs ∨ n + 1 ≤ rs.length) : decide (rs.length = n + 1) = allC M := by
  have sub : ∀ x ∈ rs, x ∈ (List.range (n + 1)).map fun (k : Nat) => (k : Int) := fun x hx => by
    obtain ⟨es, s, p, hm⟩ := r.path x hx
    obtain ⟨z0, z1, _⟩ := h.path p hm (by decide) (by omega)
    exact List.mem_map.mpr ⟨x.toNat, List.mem_range.mpr (by omega), by omega⟩
  have le := List.Nodup.length_le_of_subset r.nd sub
  rw [List.length_map, List.length_range] at le
  rw [Bool.eq_iff_iff, decide_eq_true_iff, allC_iff h.sq]
  constructor
  · intro hl j h1 h2
    have hj : (j : Int) ∈ rs := Classical.byContradiction fun hn => by
      have := List.Nodup.length_le_of_subset (List.nodup_cons.mpr ⟨hn, r.nd⟩) (l₂ := (List.range (n + 1)).map fun (k : Nat) => (k : Int)) fun x hx => by
        rcases List.mem_cons.mp hx with rfl | hx
        · exact List.mem_map.mpr ⟨j, List.mem_range.mpr (by omega), rfl⟩
        · exact sub x hx
      rw [List.length_cons, List.length_map, List.length_range] at this
      omega
    obtain ⟨es, s, p, hm⟩ := r.path _ hj
    obtain ⟨_, _, b, eb, _⟩ := h.path p hm (by decide) (by omega)
    rw [Int.toNat_natCast] at eb
    obtain ⟨c, ec, _⟩ := Option.map_eq_some_iff.mp eb
    exact ⟨c, ec⟩
  · intro ha
    rcases f with f | f
    · have := List.Nodup.length_le_of_subset (l₁ := (List.range (n + 1)).map fun (k : Nat) => (k : Int)) (l₂ := rs) (by
        rw [List.nodup_iff_pairwise_ne, List.pairwise_map]
        exact (List.nodup_range (n := n + 1)).imp fun h e => h (by omega)) fun x hx => by
        obtain ⟨k, hk, rfl⟩ := List.mem_map.mp hx
        have hk := List.mem_range.mp hk
        by_cases k0 : k = 0
        · subst k0
          exact r.zero
        · obtain ⟨p, e⟩ := ha k (by omega) (by omega)
          obtain ⟨t1, t2, _⟩ := h.told 0 k p (Nat.zero_le _) (by omega) e
          refine closd_path f t2 (fun d hd => ?_) r.zero
          obtain ⟨m, hm, rfl⟩ := List.mem_map.mp hd
          exact dsAt_mem (t1 m hm).1 (t1 m hm).2
      rw [List.length_map, List.length_range] at this
      omega
    · omega
end K17
namespace K17
open PySem PySem.Spec PyProof.Rows L2 Wy WN WQ WS WC WE WO WT WP

-- WIDE
theorem inV_int {x : Int} : ∀ {l : List Int}, inV (.int x) (l.map V.int) = decide (x ∈ l)
  | [] => by simp [inV]
  | y :: l => by
    have ih := inV_int (x := x) (l := l)
    show ((y == x) || inV (.int x) (l.map V.int)) = _
    rw [ih, Bool.eq_iff_iff, Bool.or_eq_true, decide_eq_true_iff, decide_eq_true_iff, List.mem_cons, beq_iff_eq]
    exact ⟨fun h => h.imp Eq.symm id, fun h => h.imp Eq.symm id⟩
theorem flat_ints {l : List Int} : (l.map V.int).all flatV = true := List.all_eq_true.mpr fun x hx => by
  obtain ⟨i, _, rfl⟩ := List.mem_map.mp hx
  rfl
theorem dec_len {l n : Nat} : decide (V.int (l : Int) = V.int ((n : Int) + 1)) = decide (l = n + 1) := by
  rw [decide_eq_decide]
  constructor
  · intro h
    injection h with h
    omega
  · intro h
    rw [h]
    rfl
theorem Rc.start (ds : List Df) : Rc ds [0] := ⟨by simp, List.mem_singleton.mpr rfl, fun x hx => by
  rw [List.mem_singleton.mp hx]
  exact ⟨[], 0, .nil, fun _ h => by cases h⟩⟩
theorem Rc.snoc {ds : List Df} {rs : List Int} (r : Rc ds rs) {d : Df} (hd : d ∈ ds) (h1 : d.1 ∈ rs) (h2 : d.2.1 ∉ rs) : Rc ds (rs ++ [d.2.1]) := by
  refine ⟨List.nodup_append.mpr ⟨r.nd, by simp, fun a ha b hb e => h2 ?_⟩, List.mem_append_left _ r.zero, fun x hx => ?_⟩
  · rw [← List.mem_singleton.mp hb, ← e]
    exact ha
  · rcases List.mem_append.mp hx with hx | hx
    · exact r.path x hx
    · obtain ⟨es, s, p, hm⟩ := r.path _ h1
      rw [List.mem_singleton.mp hx]
      exact ⟨es ++ [d], _, p.app (Path.one (c := d.2.2)), fun e he => by
        rcases List.mem_append.mp he with he | he
        · exact hm e he
        · rw [List.mem_singleton.mp he]
          exact hd⟩
section
variable {P : Program} {w : World} {K : PySem.W.Frag} {mg : Str → Option Value} {base : Heap}
def spReached (K : PySem.W.Frag) : Sp := fun vs H Q _ => ∃ (a : Addr) (us : List V) (n : Nat) (ds : List Df) (M : Tab), vs = [.ref a, .int n] ∧ H a = some (.lst us) ∧ TpAll H us (ds.map dfD) ∧ Mean n ds M ∧ n ≤ 1000 ∧ ds.length ≤ 1000 ∧ ∀ H', Same H H' → Q (.bl (allC M)) H'
theorem k_law_reached (T : Tx K mg) : C8.Cal P w K mg base 1 "_law_reached" (spReached K) [] := by
  refine cal_of (N := n_law_reached) T.d_law_reached sc_law_reached (fun _ _ F => F.bindsN fun _ _ _ _ _ _ us hl => match us, hl with | [_, _], _ => rfl) (fun vs H Q E h => ?_) (fun f cdv A outer s H vs Q E hr h => ?_)
  · obtain ⟨a, us, n, ds, M, rfl, _⟩ := h
    rfl
  · obtain ⟨a, us, n, ds, M, rfl, hA, tA, hM, hn, hd, q⟩ := h
    refine ⟨_, (pss_cons (ps_asg (pe_lst (pa_cons pe_int pa_nil)) (pg_name (i := 2) sc_law_reached.nd rfl (Or.inl rfl))) (pss_cons (ps_for PassesOwn.never rfl (pi_range1 (by rfl) T.z_range (pa_cons (pv 1) pa_nil)) (pg_name (i := 3) sc_law_reached.nd rfl (Or.inl rfl)) (pss_cons (ps_asg (pe_callB (call_len2 : CallR _ _ (rLn K)) (by rfl) T.z_len (by decide +kernel) (pa_cons (pv 2) pa_nil)) (pg_name (i := 4) sc_law_reached.nd rfl (Or.inl rfl))) (pss_cons (ps_for PassesOwn.never rfl (pi_list (pv 0) : PI _ _ _ (iList K _)) (pg_tup (by rfl) (pgs_cons (pg_name (i := 5) sc_law_reached.nd rfl (Or.inl rfl)) (pgs_cons (pg_name (i := 6) sc_law_reached.nd rfl (Or.inl rfl)) (pgs_cons (pg_name (i := 7) sc_law_reached.nd rfl (Or.inl rfl)) pgs_nil))) : PG _ _ (gTup K _ _)) (pss_one (ps_if (PW.pt (pw_and (pt_cmpR (op_in2 : OpR _ _ (rIn2 K)) (pv 5) (pv 2) (by rfl)) (pw_and1 (pt_cmpR (op_ni2 : OpR _ _ (rNi2 K)) (pv 6) (pv 2) (by rfl))))) (pss_one (ps_expr (pe_bm PySem.F.plainAttrs_list PySem.F.slot_list_append PySem.F.type_list_append mt_append (pv 2) (pa_cons (pv 6) pa_nil) : PE _ _ (tBM K _ _ _ _)))) pss_nil))) (pss_one (ps_if (pt_cmpR (op_eq2 hr.units : OpR _ _ (rEq2 K)) (pe_callB (call_len2 : CallR _ _ (rLn K)) (by rfl) T.z_len (by decide +kernel) (pa_cons (pv 2) pa_nil)) (pv 4) (nomark _)) (pss_one ps_break) pss_nil))))) (pss_one (ps_ret (pe_cmpR (op_eq2 hr.units : OpR _ _ (rEq2 K)) (pe_callB (call_len2 : CallR _ _ (rLn K)) (by rfl) T.z_len (by decide +kernel) (pa_cons (pv 2) pa_nil)) (pe_op op_add3 (pv 1) pe_int) (nomark _)))))), ?_⟩
    have lu := tA.length
    rw [List.length_map] at lu
    have small : ∀ rs, Rc ds rs → rs.length ≤ n + 1 := fun rs r => by
      have := List.Nodup.length_le_of_subset r.nd (l₂ := (List.range (n + 1)).map fun (k : Nat) => (k : Int)) fun x hx => by
        obtain ⟨es, s, p, hm⟩ := r.path x hx
        obtain ⟨z0, z1, _⟩ := hM.path p hm (by decide) (by omega)
        exact List.mem_map.mpr ⟨x.toNat, List.mem_range.mpr (by omega), by omega⟩
      rwa [List.length_map, List.length_range] at this
    walk_at "xx"
    rename_i rp H1 n1 s1 e1
    refine f_range (fun i σ H' => ∃ z3 z4 z5 z6 z7, ∃ rs : List Int, σ = [some (.ref a), some (.int n), some (.ref rp), z3, z4, z5, z6, z7] ∧ Same H H' ∧ H' rp = some (.lst (rs.map V.int)) ∧ Rc ds rs ∧ i + 1 ≤ rs.length)
      ⟨_, _, _, _, _, [0], rfl, s1, e1, Rc.start ds, Nat.le_refl _⟩ (fun i σ H2 hi p => ?_) (fun σ H2 p => ?_)
    · obtain ⟨z3, z4, z5, z6, z7, rs, rfl, s2, e2, r2, l2⟩ := p
      rw [Int.zero_add]
      walk_at "xx"
      refine b_lenL (lst_of e2) ?_
      rw [List.length_map]
      walk_at "xx"
      refine f_list (xs := us) (fun k σ H' => ∃ z5 z6 z7, ∃ rs' : List Int, σ = [some (.ref a), some (.int n), some (.ref rp), some (.int i), some (.int rs.length), z5, z6, z7] ∧ Same H H' ∧ H' rp = some (.lst (rs'.map V.int)) ∧ Rc ds rs' ∧ rs.length ≤ rs'.length ∧ (rs'.length = rs.length → rs' = rs ∧ ∀ d ∈ ds.take k, d.1 ∈ rs → d.2.1 ∈ rs))
        ⟨_, _, _, rs, rfl, s2, e2, r2, Nat.le_refl _, fun _ => ⟨rfl, fun d hd => by cases hd⟩⟩ (fun k σ H' hk p => ?_) (fun k x σ H3 hx p => ?_) (fun σ H3 p => ?_)
      · obtain ⟨_, _, _, _, rfl, s3, _⟩ := p
        exact lst_of (s3 _ _ hA)
      · obtain ⟨z5, z6, z7, rs', rfl, s3, e3, r3, l3, c3⟩ := p
        obtain ⟨d, gd, td⟩ := tpGet (tA.tk s3.tk) hx
        obtain ⟨p1, _, _, _, rfl, ep, t1, t2, t3⟩ := WQ.tp3 td
        cases t1
        cases t2
        cases t3
        have tk : ds.take (k + 1) = ds.take k ++ [d] := by rw [List.take_succ, gd]; rfl
        have idle : (d.1 ∈ rs' → d.2.1 ∈ rs') → rs'.length = rs.length → rs' = rs ∧ ∀ d ∈ ds.take (k + 1), d.1 ∈ rs → d.2.1 ∈ rs := fun h hl => by
          obtain ⟨e, c⟩ := c3 hl
          refine ⟨e, fun x hx => ?_⟩
          rw [tk] at hx
          rcases List.mem_append.mp hx with hx | hx
          · exact c x hx
          · rw [List.mem_singleton.mp hx]
            exact e ▸ h
        walk_at "xx"
        refine o_inL (lst_of e3) rfl flat_ints ?_
        rw [inV_int]
        walk_at "xx"
        refine iteD (fun m1 => ?_) (fun m1 => ?_)
        · walk_at "xx"
          refine o_niL (lst_of e3) rfl flat_ints ?_
          rw [inV_int]
          walk_at "xx"
          by_cases m2 : d.2.1 ∈ rs'
          · rw [decide_eq_true m2]
            walk_at "xx"
            exact ⟨_, _, _, rs', rfl, s3, e3, r3, l3, idle fun _ => m2⟩
          · rw [decide_eq_false m2]
            walk_at "xx"
            refine m_ty (lst_of e3) ?_
            walk_at "xx"
            have := small rs' r3
            refine m_app e3 (small1000' (by rw [List.length_map]; omega)) fun H4 c4 e4 => ?_
            exact ⟨_, _, _, rs' ++ [d.2.1], rfl, c4.same s3 n1, by rw [e4, List.map_append]; rfl, r3.snoc (List.mem_of_getElem? gd) m1 m2, by rw [List.length_append]; omega, fun h => by rw [List.length_append, List.length_singleton] at h; omega⟩
        · walk_at "xx"
          exact ⟨_, _, _, rs', rfl, s3, e3, r3, l3, idle fun h => absurd h m1⟩
      · obtain ⟨z5, z6, z7, rs', rfl, s3, e3, r3, l3, c3⟩ := p
        rw [lu, List.take_length] at c3
        walk_at "xx"
        refine b_lenL (lst_of e3) ?_
        rw [List.length_map]
        walk_at "xx"
        refine iteI (fun e => ?_) (fun e => ?_)
        · walk_at "xx"
          refine b_lenL (lst_of e3) ?_
          rw [List.length_map]
          walk_at "xx"
          obtain ⟨ers, hc⟩ := c3 (by omega)
          have hr := reached_all hM r3 (.inl (ers ▸ hc))
          rw [dec_len, hr]
          exact q _ s3
        · walk_at "xx"
          exact ⟨_, _, _, _, _, rs', rfl, s3, e3, r3, by omega⟩
    · obtain ⟨z3, z4, z5, z6, z7, rs, rfl, s2, e2, r2, l2⟩ := p
      rw [Int.toNat_natCast] at l2
      walk_at "xx"
      refine b_lenL (lst_of e2) ?_
      rw [List.length_map]
      walk_at "xx"
      have hr := reached_all hM r2 (.inr l2)
      rw [dec_len, hr]
      exact q _ s2
end
end K17
namespace K17
open PySem PySem.Spec PyProof.Rows L2 Wy WN WQ WS WC WE WO WT WP WB

-- WIDE
section
variable {P : Program} {w : World} {K : PySem.W.Frag} {mg : Str → Option Value} {base : Heap}
theorem wt_b0 (a b : Int) : Bd 40 ((1 - 2 * (a % 2)) * (10 ^ Int.toNat 39 + b % 10 ^ Int.toNat 20)) := by
  show Bd 40 ((1 - 2 * (a % 2)) * (10 ^ 39 + b % 10 ^ 20))
  have h1 : a % 2 = 0 ∨ a % 2 = 1 := by omega
  have h2 := Int.emod_nonneg b (show (10 : Int) ^ 20 ≠ 0 by decide +kernel)
  have h3 := Int.emod_lt_of_pos b (show (0 : Int) < 10 ^ 20 by decide +kernel)
  rw [Bd.iff]
  rcases h1 with h | h <;> rw [h] <;> omega
theorem wt_b1 (a b : Int) : Bd 40 ((1 - 2 * (a % 2)) * (b % 10 ^ Int.toNat 10)) := by
  show Bd 40 ((1 - 2 * (a % 2)) * (b % 10 ^ 10))
  have h1 : a % 2 = 0 ∨ a % 2 = 1 := by omega
  have h2 := Int.emod_nonneg b (show (10 : Int) ^ 10 ≠ 0 by decide +kernel)
  have h3 := Int.emod_lt_of_pos b (show (0 : Int) < 10 ^ 10 by decide +kernel)
  rw [Bd.iff]
  rcases h1 with h | h <;> rw [h] <;> omega
theorem wt_b2 (a : Int) : Bd 40 (a % 13 - 6) := by
  rw [Bd.iff]
  omega
theorem k_law_weight (T : Tx K mg) : C8.Cal P w K mg base 1 "_law_weight" spWtB [] := by
  refine cal_of (N := n_law_weight) T.d_law_weight sc_law_weight (fun _ _ F => F.bindsN fun _ _ _ _ _ _ us hl => match us, hl with | [_], _ => rfl) (fun vs H Q E h => ?_) (fun f cdv A outer s H vs Q E hr h => ?_)
  · obtain ⟨d, rfl, _⟩ := h
    rfl
  · obtain ⟨d, rfl, q⟩ := h
    refine ⟨_, (pss_cons (ps_asg (pe_op op_mod (pe_callTy call_int2 (by rfl) T.z_int (by decide +kernel) (pa_cons (pv 0) pa_nil)) pe_int) (pg_name (i := 1) sc_law_weight.nd rfl (Or.inl rfl))) (pss_cons (ps_asg (pe_op op_fdivW (pv 0) pe_int) (pg_name (i := 2) sc_law_weight.nd rfl (Or.inl rfl))) (pss_cons (ps_if (pt_cmpR (op_eq2 hr.units : OpR _ _ (rEq2 K)) (pv 1) pe_int (nomark _)) (pss_one (ps_ret (pe_op op_mul2 (pe_op op_sub pe_int (pe_op op_mul2 pe_int (pe_op op_mod (pe_callTy call_int2 (by rfl) T.z_int (by decide +kernel) (pa_cons (pv 2) pa_nil)) pe_int))) (pe_op op_add3 (pe_op op_pow pe_int pe_int) (pe_op op_mod (pe_callTy call_int2 (by rfl) T.z_int (by decide +kernel) (pa_cons (pv 2) pa_nil)) (pe_op op_pow pe_int pe_int)))))) pss_nil) (pss_cons (ps_if (pt_cmpR (op_eq2 hr.units : OpR _ _ (rEq2 K)) (pv 1) pe_int (nomark _)) (pss_one (ps_ret (pe_op op_mul2 (pe_op op_sub pe_int (pe_op op_mul2 pe_int (pe_op op_mod (pe_callTy call_int2 (by rfl) T.z_int (by decide +kernel) (pa_cons (pv 2) pa_nil)) pe_int))) (pe_op op_mod (pe_callTy call_int2 (by rfl) T.z_int (by decide +kernel) (pa_cons (pe_op op_fdivW (pv 2) pe_int) pa_nil)) (pe_op op_pow pe_int pe_int))))) pss_nil) (pss_one (ps_ret (pe_op op_sub (pe_op op_mod (pe_callTy call_int2 (by rfl) T.z_int (by decide +kernel) (pa_cons (pv 2) pa_nil)) pe_int) pe_int))))))), ?_⟩
    walk_at "xx"
    refine iteI (fun e => ?_) (fun e => ?_)
    · walk_at "xx"
      refine o_mod (by decide +kernel) ?_
      walk_at "xx"
      exact q _ (wt_b0 _ _)
    · walk_at "xx"
      refine iteI (fun e => ?_) (fun e => ?_)
      · walk_at "xx"
        refine o_mod (by decide +kernel) ?_
        walk_at "xx"
        exact q _ (wt_b1 _ _)
      · walk_at "xx"
        exact q _ (wt_b2 _)
def Bnd (n : Nat) (xs : List Int) : Prop := ∀ x ∈ xs, Bd n x
def rgD (r : Int × Int) : PyData := .tuple [.int r.1, .int r.2]
def spRanges (K : PySem.W.Frag) : Sp := fun vs H Q _ => ∃ (a : Addr) (zs : List Int) (m : Nat), vs = [.ref a, .int m] ∧ SqL K H a (zs.map V.int) ∧ m ≤ 100 ∧
  ∀ p us H' rg, Same H H' → H p = none → H' p = some (.lst us) → TpAll H' us ((rg : List (Int × Int)).map rgD) → rg.length = m → (∀ r ∈ rg, Bd 40 r.1 ∧ Bd 41 r.2 ∧ r.1 ≤ r.2) → Q (.ref p) H'
theorem k_law_ranges (T : Tx K mg) : C8.Cal P w K mg base 3 "_law_ranges" (spRanges K) [] := by
  refine cal_of (N := n_law_ranges) T.d_law_ranges sc_law_ranges (fun _ _ F => F.bindsN fun _ _ _ _ _ _ us hl => match us, hl with | [_, _], _ => rfl) (fun vs H Q E h => ?_) (fun f cdv A outer s H vs Q E hr h => ?_)
  · obtain ⟨a, zs, m, rfl, _⟩ := h
    rfl
  · obtain ⟨a, zs, m, rfl, hA, hm, q⟩ := h
    refine ⟨_, (pss_cons (ps_asg (C8.pe_c (k_law_draws T) hr (by first | decide | omega) (by rfl) (pa_cons (pv 0) (pa_cons pe_int (pa_cons (pe_lc (own := [("k", 2)]) (g := gName 2) (tt := tYes) (by rfl) sc_law_ranges.nd (pi_range1 (by rfl) T.z_range (pa_cons (pe_op op_mul2 pe_int (pv 1)) pa_nil)) (blkOk_by (own := [("k", 2)]) (N := n_law_ranges) (sc := defScope s_law_ranges) (by decide +kernel)) (fun _ _ _ _ _ => pg_name (i := 2) sc_law_ranges.nd rfl (Or.inl rfl)) (fun _ _ _ _ _ => pts_nil) (fun _ _ _ _ _ => (pe_op op_pow pe_int pe_int))) pa_nil)))) (pg_name (i := 3) sc_law_ranges.nd rfl (Or.inl rfl))) (pss_cons (ps_asg (pe_lst pa_nil) (pg_name (i := 4) sc_law_ranges.nd rfl (Or.inl rfl))) (pss_cons (ps_for PassesOwn.never rfl (pi_range1 (by rfl) T.z_range (pa_cons (pv 1) pa_nil)) (pg_name (i := 2) sc_law_ranges.nd rfl (Or.inl rfl)) (pss_cons (ps_asg (C8.pe_c (k_law_weight T) hr (by first | decide | omega) (by rfl) (pa_cons (pe_ix (ix_seq : IxR _ (rIx K)) (pv 3) (pe_op op_mul2 pe_int (pv 2)) (fun _ _ => rfl)) pa_nil)) (pg_name (i := 5) sc_law_ranges.nd rfl (Or.inl rfl))) (pss_cons (ps_asg (pe_op op_add3 (pv 5) (pe_callB call_abs2 (by rfl) T.z_abs (by decide +kernel) (pa_cons (C8.pe_c (k_law_weight T) hr (by first | decide | omega) (by rfl) (pa_cons (pe_ix (ix_seq : IxR _ (rIx K)) (pv 3) (pe_op op_add3 (pe_op op_mul2 pe_int (pv 2)) pe_int) (fun _ _ => rfl)) pa_nil)) pa_nil))) (pg_name (i := 6) sc_law_ranges.nd rfl (Or.inl rfl))) (pss_one (ps_expr (pe_bm PySem.F.plainAttrs_list PySem.F.slot_list_append PySem.F.type_list_append mt_append (pv 4) (pa_cons (pe_tup (pa_cons (pv 5) (pa_cons (pv 6) pa_nil))) pa_nil) : PE _ _ (tBM K _ _ _ _))))))) (pss_one (ps_ret (pv 4)))))), ?_⟩
    walk_at "xx"
    refine c_constI (c := 10 ^ 42) (fun _ _ _ h => ?_) (by omega) (fun _ => rfl) fun D H2 nD s2 e2 => ?_
    · walk_at "xx"
      exact h
    walk_at "xx"
    refine ⟨a, D, zs, _, 1, rfl, s2.seq hA, lst_of e2, ⟨by rw [List.length_replicate]; omega, fun s hs => by rw [(List.mem_replicate.mp hs).2]; decide +kernel⟩, fun dp H3 dr s3 n3 e3 hd => ?_⟩
    have ld := hd.len
    rw [List.length_replicate] at ld
    walk_at "xx"
    rename_i rp H4 n4 s4 e4
    have S4 : Same H H4 := s2.trans (s3.trans s4)
    have nR : H rp = none := (s2.trans s3).free n4
    refine f_range (fun i σ H' => ∃ z4 z5 z6 us, ∃ rg : List (Int × Int), σ = [some (.ref a), some (.int m), z4, some (.ref dp), some (.ref rp), z5, z6] ∧ Same H H' ∧ H' dp = some (.lst (dr.map V.int)) ∧ H' rp = some (.lst us) ∧ TpAll H' us (rg.map rgD) ∧ rg.length = i ∧ ∀ r ∈ rg, Bd 40 r.1 ∧ Bd 41 r.2 ∧ r.1 ≤ r.2)
      ⟨_, _, _, _, [], rfl, S4, s4 _ _ e3, e4, .nil, rfl, fun _ h => by cases h⟩ (fun i σ H5 hi p => ?_) (fun σ H5 p => ?_)
    · obtain ⟨z4, z5, z6, us, rg, rfl, s5, e5, f5, t5, l5, b5⟩ := p
      have hi : i < m := by omega
      have lu := t5.length
      rw [List.length_map] at lu
      rw [Int.zero_add]
      walk_at "xx"
      refine ix_int (lst_of e5) (by omega) (by omega) fun x gx => ?_
      walk_at "xx"
      refine ⟨x, rfl, fun lo hlo => ?_⟩
      walk_at "xx"
      refine ix_int (lst_of e5) (by omega) (by omega) fun y gy => ?_
      walk_at "xx"
      refine ⟨y, rfl, fun w8 hw8 => ?_⟩
      walk_at "xx"
      refine m_ty (lst_of f5) ?_
      walk_at "xx"
      rename_i tp H6 n6 s6 e6
      refine m_app (s6 _ _ f5) (small1000 (by omega)) fun H7 c7 e7 => ?_
      have k7 : TK H5 H7 := s6.tk.trans (c7.tk (s6 _ _ f5))
      have ndr : dp ≠ rp := ne_of_none e3 n4
      walk_at "xx"
      refine ⟨_, _, _, us ++ [.ref tp], rg ++ [(lo, lo + if w8 < 0 then -w8 else w8)], rfl, c7.same (s5.trans s6) nR, c7.at (s6 _ _ e5) ndr, e7, ?_, by rw [List.length_append, l5]; rfl, fun r hr => ?_⟩
      · rw [List.map_append]
        exact tpSnoc (t5.tk k7) (Tp.tk (c7.tk (s6 _ _ f5)) (.tup e6 (by walk_at "tp")))
      · rcases List.mem_append.mp hr with hr | hr
        · exact b5 r hr
        · rw [List.mem_singleton.mp hr]
          refine ⟨hlo, ?_, ?_⟩
          · rw [Bd.iff] at hlo hw8 ⊢
            show _ < lo + (if w8 < 0 then -w8 else w8) ∧ lo + (if w8 < 0 then -w8 else w8) < _
            split <;> omega
          · show lo ≤ lo + if w8 < 0 then -w8 else w8
            split <;> omega
    · obtain ⟨z4, z5, z6, us, rg, rfl, s5, e5, f5, t5, l5, b5⟩ := p
      walk_at "xx"
      exact q _ _ _ rg s5 nR f5 t5 (by omega) b5
end
end K17
namespace K17
open PySem PySem.Spec PyProof.Rows L2 Wy WN WQ WS WC WE WO WT WP WB

-- WIDE
-- CUT _law_more
theorem bd_mono {n m : Nat} {i : Int} (h : Bd n i) (k : n ≤ m) : Bd m i := Nat.lt_of_lt_of_le h (Nat.pow_le_pow_right (by decide) k)
theorem bd_lvr {vals : List Int} {n : Int} (h : ∀ v ∈ vals, Bd 42 v) : Bd 42 (lv vals n) := by
  unfold lv
  rw [List.getD_eq_getElem?_getD]
  cases e : (0 :: vals)[n.toNat]? with
  | none =>
    show Bd 42 0
    rw [Bd.iff]
    omega
  | some x =>
    rcases List.mem_cons.mp (List.mem_of_getElem? e) with rfl | hx
    · show Bd 42 0
      rw [Bd.iff]
      omega
    · exact h x hx
theorem bd_near {a b c : Int} (h1 : Bd 42 a) (h2 : Bd 42 b) (h3 : -1000 ≤ c) (h4 : c ≤ 1000) : Bd 43 (a - b + c) := by
  rw [Bd.iff] at h1 h2 ⊢
  omega
section
variable {P : Program} {w : World} {K : PySem.W.Frag} {mg : Str → Option Value} {base : Heap}
def spMore (K : PySem.W.Frag) : Sp := fun vs H Q _ => ∃ (a rp vp : Addr) (zs : List Int) (pl : Int) (n m : Nat) (ur : List V) (rg : List (Int × Int)) (vals : List Int), vs = [.ref a, .int pl, .int n, .int m, .ref rp, .ref vp] ∧ SqL K H a (zs.map V.int) ∧ n ≤ 100 ∧ m ≤ 100 ∧ H rp = some (.lst ur) ∧ TpAll H ur (rg.map rgD) ∧ rg.length = m ∧ (∀ r ∈ rg, Bd 42 r.1 ∧ Bd 42 r.2) ∧ H vp = some (.lst (vals.map V.int)) ∧ (vals = [] ∨ vals.length = m) ∧ (∀ v ∈ vals, Bd 42 v) ∧
  ∀ p us H' ds, Same H H' → H p = none → H' p = some (.lst us) → TpAll H' us ((ds : List Df).map dfD) → ds.length = n → (∀ d ∈ ds, InR m d ∧ Bd 43 d.2.2) → Q (.ref p) H'
theorem k_law_more (T : Tx K mg) : C8.Cal P w K mg base 3 "_law_more" (spMore K) [] := by
  refine cal_of (N := n_law_more) T.d_law_more sc_law_more (fun _ _ F => F.bindsN fun _ _ _ _ _ _ us hl => match us, hl with | [_, _, _, _, _, _], _ => rfl) (fun vs H Q E h => ?_) (fun f cdv A outer s H vs Q E hr h => ?_)
  · obtain ⟨a, rp, vp, zs, pl, n, m, ur, rg, vals, rfl, _⟩ := h
    rfl
  · obtain ⟨a, rp, vp, zs, pl, n, m, ur, rg, vals, rfl, hA, hn, hm, hR, tR, lrg, hrg, hV, lvv, hv, q⟩ := h
    refine ⟨_, (pss_cons (ps_asg (C8.pe_c (k_law_draws T) hr (by first | decide | omega) (by rfl) (pa_cons (pv 0) (pa_cons (pv 1) (pa_cons (pe_lc (own := [("k", 6)]) (g := gName 6) (tt := tYes) (by rfl) sc_law_more.nd (pi_range1 (by rfl) T.z_range (pa_cons (pe_op op_mul2 pe_int (pv 2)) pa_nil)) (blkOk_by (own := [("k", 6)]) (N := n_law_more) (sc := defScope s_law_more) (by decide +kernel)) (fun _ _ _ _ _ => pg_name (i := 6) sc_law_more.nd rfl (Or.inl rfl)) (fun _ _ _ _ _ => pts_nil) (fun _ _ _ _ _ => (pe_op op_add3 (pv 3) pe_int))) pa_nil)))) (pg_name (i := 7) sc_law_more.nd rfl (Or.inl rfl))) (pss_cons (ps_asg (C8.pe_c (k_law_draws T) hr (by first | decide | omega) (by rfl) (pa_cons (pv 0) (pa_cons (pe_op op_add3 (pv 1) pe_int) (pa_cons (pe_lc (own := [("k", 6)]) (g := gName 6) (tt := tYes) (by rfl) sc_law_more.nd (pi_range1 (by rfl) T.z_range (pa_cons (pe_op op_mul2 pe_int (pv 2)) pa_nil)) (blkOk_by (own := [("k", 6)]) (N := n_law_more) (sc := defScope s_law_more) (by decide +kernel)) (fun _ _ _ _ _ => pg_name (i := 6) sc_law_more.nd rfl (Or.inl rfl)) (fun _ _ _ _ _ => pts_nil) (fun _ _ _ _ _ => (pe_op op_pow pe_int pe_int))) pa_nil)))) (pg_name (i := 8) sc_law_more.nd rfl (Or.inl rfl))) (pss_cons (ps_asg (pe_op op_add3 (pe_lst (pa_cons pe_int pa_nil)) (pe_lc (own := [("low", 16), ("high", 17)]) (g := (gTup K 2 (gCons (gName 16) (gCons (gName 17) (gNil))))) (tt := tYes) (by rfl) sc_law_more.nd (pi_list (pv 4) : PI _ _ _ (iList K _)) (blkOk_by (own := [("low", 16), ("high", 17)]) (N := n_law_more) (sc := defScope s_law_more) (by decide +kernel)) (fun _ _ _ _ _ => pg_tup (by rfl) (pgs_cons (pg_name (i := 16) sc_law_more.nd rfl (Or.inl rfl)) (pgs_cons (pg_name (i := 17) sc_law_more.nd rfl (Or.inl rfl)) pgs_nil))) (fun _ _ _ _ _ => pts_nil) (fun _ _ _ _ _ => (pv 16)))) (pg_name (i := 9) sc_law_more.nd rfl (Or.inl rfl))) (pss_cons (ps_asg (pe_op op_add3 (pe_lst (pa_cons pe_int pa_nil)) (pe_lc (own := [("low", 16), ("high", 17)]) (g := (gTup K 2 (gCons (gName 16) (gCons (gName 17) (gNil))))) (tt := tYes) (by rfl) sc_law_more.nd (pi_list (pv 4) : PI _ _ _ (iList K _)) (blkOk_by (own := [("low", 16), ("high", 17)]) (N := n_law_more) (sc := defScope s_law_more) (by decide +kernel)) (fun _ _ _ _ _ => pg_tup (by rfl) (pgs_cons (pg_name (i := 16) sc_law_more.nd rfl (Or.inl rfl)) (pgs_cons (pg_name (i := 17) sc_law_more.nd rfl (Or.inl rfl)) pgs_nil))) (fun _ _ _ _ _ => pts_nil) (fun _ _ _ _ _ => (pv 17)))) (pg_name (i := 10) sc_law_more.nd rfl (Or.inl rfl))) (pss_cons (ps_asg (pe_lst pa_nil) (pg_name (i := 11) sc_law_more.nd rfl (Or.inl rfl))) (pss_cons (ps_for PassesOwn.never rfl (pi_range1 (by rfl) T.z_range (pa_cons (pv 2) pa_nil)) (pg_name (i := 6) sc_law_more.nd rfl (Or.inl rfl)) (pss_cons (ps_asg (pe_ix (ix_seq : IxR _ (rIx K)) (pv 7) (pe_op op_mul2 pe_int (pv 6)) (fun _ _ => rfl)) (pg_name (i := 12) sc_law_more.nd rfl (Or.inl rfl))) (pss_cons (ps_asg (pe_ix (ix_seq : IxR _ (rIx K)) (pv 7) (pe_op op_add3 (pe_op op_mul2 pe_int (pv 6)) pe_int) (fun _ _ => rfl)) (pg_name (i := 13) sc_law_more.nd rfl (Or.inl rfl))) (pss_cons (ps_asg (pe_op op_mod (pe_callTy call_int2 (by rfl) T.z_int (by decide +kernel) (pa_cons (pe_ix (ix_seq : IxR _ (rIx K)) (pv 8) (pe_op op_mul2 pe_int (pv 6)) (fun _ _ => rfl)) pa_nil)) pe_int) (pg_name (i := 14) sc_law_more.nd rfl (Or.inl rfl))) (pss_cons (ps_asg (C8.pe_c (k_law_weight T) hr (by first | decide | omega) (by rfl) (pa_cons (pe_ix (ix_seq : IxR _ (rIx K)) (pv 8) (pe_op op_add3 (pe_op op_mul2 pe_int (pv 6)) pe_int) (fun _ _ => rfl)) pa_nil)) (pg_name (i := 15) sc_law_more.nd rfl (Or.inl rfl))) (C8.pss_cut (ps_if (pt_cmpR (op_eq2 hr.units : OpR _ _ (rEq2 K)) (pv 14) pe_int (nomark _)) (pss_one (ps_asg (pe_op op_sub (pe_op op_add3 (pe_op op_sub (pe_ix (ix_seq : IxR _ (rIx K)) (pv 10) (pv 12) (fun _ _ => rfl)) (pe_ix (ix_seq : IxR _ (rIx K)) (pv 9) (pv 13) (fun _ _ => rfl))) (pe_op op_mod (pe_callTy call_int2 (by rfl) T.z_int (by decide +kernel) (pa_cons (pe_ix (ix_seq : IxR _ (rIx K)) (pv 8) (pe_op op_add3 (pe_op op_mul2 pe_int (pv 6)) pe_int) (fun _ _ => rfl)) pa_nil)) pe_int)) pe_int) (pg_name (i := 15) sc_law_more.nd rfl (Or.inl rfl)))) pss_nil) (C8.pss_cut (ps_if (pt_cmpR (op_eq2 hr.units : OpR _ _ (rEq2 K)) (pv 14) pe_int (nomark _)) (pss_one (ps_asg (pe_op op_sub (pe_op op_add3 (pe_op op_sub (pe_ix (ix_seq : IxR _ (rIx K)) (pv 9) (pv 12) (fun _ _ => rfl)) (pe_ix (ix_seq : IxR _ (rIx K)) (pv 10) (pv 13) (fun _ _ => rfl))) (pe_op op_mod (pe_callTy call_int2 (by rfl) T.z_int (by decide +kernel) (pa_cons (pe_ix (ix_seq : IxR _ (rIx K)) (pv 8) (pe_op op_add3 (pe_op op_mul2 pe_int (pv 6)) pe_int) (fun _ _ => rfl)) pa_nil)) pe_int)) pe_int) (pg_name (i := 15) sc_law_more.nd rfl (Or.inl rfl)))) pss_nil) (C8.pss_cut (ps_if (pt_cmpR op_gt (pe_callB (call_len2 : CallR _ _ (rLn K)) (by rfl) T.z_len (by decide +kernel) (pa_cons (pv 5) pa_nil)) pe_int (nomark _)) (pss_one (ps_asg (pe_callC cc_max (by rfl) T.z_max (by decide +kernel) (pa_cons (pe_callTy call_int2 (by rfl) T.z_int (by decide +kernel) (pa_cons (pv 15) pa_nil)) (pa_cons (pe_callTy call_int2 (by rfl) T.z_int (by decide +kernel) (pa_cons (pe_op op_sub (pe_ix (ix_seq : IxR _ (rIx K)) (pe_op op_add3 (pe_lst (pa_cons pe_int pa_nil)) (pv 5)) (pv 12) (fun _ _ => rfl)) (pe_ix (ix_seq : IxR _ (rIx K)) (pe_op op_add3 (pe_lst (pa_cons pe_int pa_nil)) (pv 5)) (pv 13) (fun _ _ => rfl))) pa_nil)) pa_nil))) (pg_name (i := 15) sc_law_more.nd rfl (Or.inl rfl)))) pss_nil) (pss_one (ps_expr (pe_bm PySem.F.plainAttrs_list PySem.F.slot_list_append PySem.F.type_list_append mt_append (pv 11) (pa_cons (pe_tup (pa_cons (pv 12) (pa_cons (pv 13) (pa_cons (pv 15) pa_nil)))) pa_nil) : PE _ _ (tBM K _ _ _ _)))))))))))) (pss_one (ps_ret (pv 11))))))))), ?_⟩
    have lur := tR.length
    rw [List.length_map] at lur
    walk_at "xx"
    refine c_rng (fun _ => (m : Int) + 1) (fun j H N hj h => ?_) (by omega) (fun _ => rfl) fun D H2 nD s2 e2 => ?_
    · walk_at "xx"
      exact h
    rw [List.map_const', List.length_range] at e2
    walk_at "xx"
    refine ⟨a, D, zs, _, pl, rfl, s2.seq hA, lst_of e2, ⟨by rw [List.length_replicate]; omega, fun s hs => by rw [(List.mem_replicate.mp hs).2]; omega⟩, fun dp H3 dr s3 n3 e3 hd => ?_⟩
    have ld := hd.len
    rw [List.length_replicate] at ld
    have S3 := s2.trans s3
    walk_at "xx"
    refine c_constI (c := 10 ^ 42) (fun _ _ _ h => ?_) (by omega) (fun _ => rfl) fun D2 H4 nD2 s4 e4 => ?_
    · walk_at "xx"
      exact h
    walk_at "xx"
    refine ⟨a, D2, zs, _, pl + 1, rfl, (S3.trans s4).seq hA, lst_of e4, ⟨by rw [List.length_replicate]; omega, fun s hs => by rw [(List.mem_replicate.mp hs).2]; decide +kernel⟩, fun kp H5 kr s5 n5 e5 hk => ?_⟩
    have lk := hk.len
    rw [List.length_replicate] at lk
    have S5 := S3.trans (s4.trans s5)
    walk_at "xx"
    have lrg' : rg.length = ur.length := by omega
    rename_i q1 H6 n6 s6 e6
    have S6 := S5.trans s6
    refine c_acc (xs := ur) (.inl ⟨rfl, lst_of (S6 _ _ hR)⟩) (One fun j y _ => ∃ r, rg[j]? = some r ∧ y = .int r.1) (fun _ _ _ _ _ h => h) (fun i acc H hi h => small1000' (by rw [h.1]; omega)) One.zero (fun j x H' acc N M hx s o hN hM => ?_) (fun L1 H7 ys n7 s7 e7 o => ?_)
    · obtain ⟨r, hr', tr⟩ := tpGet (tR.tk (S6.trans s).tk) hx
      obtain ⟨p1, _, _, rfl, ep, t1, t2⟩ := WQ.tp2 (show Tp H' x (.tuple [.int r.1, .int r.2]) from tr)
      cases t1
      cases t2
      walk_at "xx"
      refine ⟨rfl, ?_⟩
      walk_at "xx"
      exact hN _ _ (Same.refl _) (o.snoc (fun _ _ h => h) ⟨r, hr', rfl⟩)
    have ey := One.eq (xs := rg) (F := fun r => V.int r.1) (by rw [← lrg'] at o; exact o) (fun j y hj p => by
      obtain ⟨r, hr', rfl⟩ := p
      rw [hr']
      rfl)
    have e7 : H7 L1 = some (.lst ((rg.map fun r => r.1).map V.int)) := by
      rw [e7, ey, List.map_map]
      rfl
    clear o ey
    walk_at "xx"
    refine o_addL (s7 _ _ e6) e7 (by simp only [List.length_map, List.length_singleton]; exact lz (by omega)) fun lp H8 n8 s8 e8 => ?_
    have e8 : H8 lp = some (.lst ((0 :: rg.map fun r => r.1).map V.int)) := e8
    walk_at "xx"
    rename_i q2 H9 n9 s9 e9
    have S9 := S6.trans (s7.trans (s8.trans s9))
    refine c_acc (xs := ur) (.inl ⟨rfl, lst_of (S9 _ _ hR)⟩) (One fun j y _ => ∃ r, rg[j]? = some r ∧ y = .int r.2) (fun _ _ _ _ _ h => h) (fun i acc H hi h => small1000' (by rw [h.1]; omega)) One.zero (fun j x H' acc N M hx s o hN hM => ?_) (fun L2 H10 ys n10 s10 e10 o => ?_)
    · obtain ⟨r, hr', tr⟩ := tpGet (tR.tk (S9.trans s).tk) hx
      obtain ⟨p1, _, _, rfl, ep, t1, t2⟩ := WQ.tp2 (show Tp H' x (.tuple [.int r.1, .int r.2]) from tr)
      cases t1
      cases t2
      walk_at "xx"
      refine ⟨rfl, ?_⟩
      walk_at "xx"
      exact hN _ _ (Same.refl _) (o.snoc (fun _ _ h => h) ⟨r, hr', rfl⟩)
    have ey := One.eq (xs := rg) (F := fun r => V.int r.2) (by rw [← lrg'] at o; exact o) (fun j y hj p => by
      obtain ⟨r, hr', rfl⟩ := p
      rw [hr']
      rfl)
    have e10 : H10 L2 = some (.lst ((rg.map fun r => r.2).map V.int)) := by
      rw [e10, ey, List.map_map]
      rfl
    clear o ey
    walk_at "xx"
    refine o_addL (s10 _ _ e9) e10 (by simp only [List.length_map, List.length_singleton]; exact lz (by omega)) fun hp H11 n11 s11 e11 => ?_
    have e11 : H11 hp = some (.lst ((0 :: rg.map fun r => r.2).map V.int)) := e11
    walk_at "xx"
    rename_i mp H12 n12 s12 e12
    have s12' := s12
    have S11 := S9.trans (s10.trans s11)
    have nM : H mp = none := (S9.trans (s10.trans s11)).free n12
    have e3' := (s4.trans (s5.trans (s6.trans (s7.trans (s8.trans (s9.trans (s10.trans s11))))))) _ _ e3
    have e5' := (s6.trans (s7.trans (s8.trans (s9.trans (s10.trans s11))))) _ _ e5
    have e8' := (s9.trans (s10.trans s11)) _ _ e8
    have e11' := e11
    have hV' := S11 _ _ hV
    have d1 : dp ≠ mp := ne_of_none ((s4.trans (s5.trans (s6.trans (s7.trans (s8.trans (s9.trans (s10.trans s11))))))) _ _ e3) n12
    clear s2 s3 s4 s5 s6 s7 s8 s9 s10 s11 s12 S3 S5 S6 S9 e2 e3 e4 e5 e6 e7 e8 e9 e10 e11 n3 n5 n6 n7 n8 n9 n10 n11 nD nD2
    refine f_range (fun i σ H' => ∃ z6 z12 z13 z14 z15 us, ∃ ds : List Df, σ = [some (.ref a), some (.int pl), some (.int n), some (.int m), some (.ref rp), some (.ref vp), z6, some (.ref dp), some (.ref kp), some (.ref lp), some (.ref hp), some (.ref mp), z12, z13, z14, z15, none, none] ∧ Same H11 H' ∧ H' mp = some (.lst us) ∧ TpAll H' us (ds.map dfD) ∧ ds.length = i ∧ ∀ d ∈ ds, InR m d ∧ Bd 43 d.2.2)
      ⟨_, _, _, _, _, _, [], rfl, s12', e12, .nil, rfl, fun _ h => by cases h⟩ (fun i σ H13 hi p => ?_) (fun σ H13 p => ?_)
    · obtain ⟨z6, z12, z13, z14, z15, us, ds, rfl, s13, f13, t13, l13, b13⟩ := p
      have hi : i < n := by omega
      rw [Int.zero_add]
      walk_at "xx"
      refine ix_int (lst_of (s13 _ _ e3')) (by omega) (by omega) fun u gu => ?_
      walk_at "xx"
      refine ix_int (lst_of (s13 _ _ e3')) (by omega) (by omega) fun v gv => ?_
      walk_at "xx"
      refine ix_int (lst_of (s13 _ _ e5')) (by omega) (by omega) fun x gx => ?_
      walk_at "xx"
      refine ix_int (lst_of (s13 _ _ e5')) (by omega) (by omega) fun y gy => ?_
      walk_at "xx"
      refine ⟨y, rfl, fun c0 hc0 => ?_⟩
      walk_at "xx"
      have hu : 0 ≤ u ∧ u ≤ m := by
        obtain ⟨t, gt, h1, h2⟩ := hd.get gu
        rw [List.getElem?_replicate] at gt
        split at gt <;> cases gt
        omega
      have hv2 : 0 ≤ v ∧ v ≤ m := by
        obtain ⟨t, gt, h1, h2⟩ := hd.get gv
        rw [List.getElem?_replicate] at gt
        split at gt <;> cases gt
        omega
      have bl : ∀ x ∈ rg.map (fun r => r.1), Bd 42 x := fun x hx => by
        obtain ⟨r, hr', rfl⟩ := List.mem_map.mp hx
        exact (hrg r hr').1
      have bh : ∀ x ∈ rg.map (fun r => r.2), Bd 42 x := fun x hx => by
        obtain ⟨r, hr', rfl⟩ := List.mem_map.mp hx
        exact (hrg r hr').2
      generalize x % 3 = near
      have hc0 : Bd 43 c0 := bd_mono hc0 (by decide)
      refine s_cut (fun σ H' => ∃ c2 : Int, σ = [some (.ref a), some (.int pl), some (.int n), some (.int m), some (.ref rp), some (.ref vp), some (.int i), some (.ref dp), some (.ref kp), some (.ref lp), some (.ref hp), some (.ref mp), some (.int u), some (.int v), some (.int near), some (.int c2), none, none] ∧ H13 = H' ∧ Bd 43 c2) ?_ (fun σ H14 p => ?_)
      · walk_at "xx"
        refine iteI (fun e => ?_) (fun e => ?_)
        · walk_at "xx"
          refine ix_lv (lst_of (s13 _ _ e11')) hu.1 (by rw [List.length_map]; omega) ?_
          walk_at "xx"
          refine ix_lv (lst_of (s13 _ _ e8')) hv2.1 (by rw [List.length_map]; omega) ?_
          walk_at "xx"
          refine ix_int (lst_of (s13 _ _ e5')) (by omega) (by omega) fun y2 gy2 => ?_
          walk_at "xx"
          refine ⟨_, rfl, rfl, ?_⟩
          have z0 := Int.emod_nonneg y2 (show (5 : Int) ≠ 0 by decide)
          have z1 := Int.emod_lt_of_pos y2 (show (0 : Int) < 5 by decide)
          have := bd_near (a := lv (rg.map fun r => r.2) u) (b := lv (rg.map fun r => r.1) v) (c := y2 % 5 - 3) (bd_lvr bh) (bd_lvr bl) (by omega) (by omega)
          rw [show lv (rg.map fun r => r.2) u - lv (rg.map fun r => r.1) v + y2 % 5 - 3 = lv (rg.map fun r => r.2) u - lv (rg.map fun r => r.1) v + (y2 % 5 - 3) by omega]
          exact this
        · walk_at "xx"
          exact ⟨_, rfl, rfl, hc0⟩
      obtain ⟨c1, rfl, rfl, hc1⟩ := p
      refine s_cut (fun σ H' => ∃ c2 : Int, σ = [some (.ref a), some (.int pl), some (.int n), some (.int m), some (.ref rp), some (.ref vp), some (.int i), some (.ref dp), some (.ref kp), some (.ref lp), some (.ref hp), some (.ref mp), some (.int u), some (.int v), some (.int near), some (.int c2), none, none] ∧ H13 = H' ∧ Bd 43 c2) ?_ (fun σ H14 p => ?_)
      · walk_at "xx"
        refine iteI (fun e => ?_) (fun e => ?_)
        · walk_at "xx"
          refine ix_lv (lst_of (s13 _ _ e8')) hu.1 (by rw [List.length_map]; omega) ?_
          walk_at "xx"
          refine ix_lv (lst_of (s13 _ _ e11')) hv2.1 (by rw [List.length_map]; omega) ?_
          walk_at "xx"
          refine ix_int (lst_of (s13 _ _ e5')) (by omega) (by omega) fun y2 gy2 => ?_
          walk_at "xx"
          refine ⟨_, rfl, rfl, ?_⟩
          have z0 := Int.emod_nonneg y2 (show (7 : Int) ≠ 0 by decide)
          have z1 := Int.emod_lt_of_pos y2 (show (0 : Int) < 7 by decide)
          have := bd_near (a := lv (rg.map fun r => r.1) u) (b := lv (rg.map fun r => r.2) v) (c := y2 % 7 - 1) (bd_lvr bl) (bd_lvr bh) (by omega) (by omega)
          rw [show lv (rg.map fun r => r.1) u - lv (rg.map fun r => r.2) v + y2 % 7 - 1 = lv (rg.map fun r => r.1) u - lv (rg.map fun r => r.2) v + (y2 % 7 - 1) by omega]
          exact this
        · walk_at "xx"
          exact ⟨_, rfl, rfl, hc1⟩
      obtain ⟨c2, rfl, rfl, hc2⟩ := p
      refine s_cut (fun σ H' => ∃ c3 : Int, σ = [some (.ref a), some (.int pl), some (.int n), some (.int m), some (.ref rp), some (.ref vp), some (.int i), some (.ref dp), some (.ref kp), some (.ref lp), some (.ref hp), some (.ref mp), some (.int u), some (.int v), some (.int near), some (.int c3), none, none] ∧ Same H13 H' ∧ Bd 43 c3) ?_ (fun σ H14 p => ?_)
      · walk_at "xx"
        refine b_lenL (lst_of (s13 _ _ hV')) ?_
        rw [List.length_map]
        walk_at "xx"
        refine iteD (fun e => ?_) (fun e => ?_)
        · have lvm : vals.length = m := lvv.resolve_left fun h => by
            rw [h] at e
            simp at e
          walk_at "xx"
          rename_i w1 H15 n15 s15 e15
          refine o_addL e15 (s15 _ _ (s13 _ _ hV')) (by rw [List.length_map]; exact lz (by show 1 + _ ≤ _; omega)) fun w2 H16 n16 s16 e16 => ?_
          have e16 : H16 w2 = some (.lst ((0 :: vals).map V.int)) := e16
          walk_at "xx"
          refine ix_lv (lst_of e16) hu.1 (by omega) ?_
          walk_at "xx"
          rename_i w3 H17 n17 s17 e17
          refine o_addL e17 ((s15.trans (s16.trans s17)) _ _ (s13 _ _ hV')) (by rw [List.length_map]; exact lz (by show 1 + _ ≤ _; omega)) fun w4 H18 n18 s18 e18 => ?_
          have e18 : H18 w4 = some (.lst ((0 :: vals).map V.int)) := e18
          walk_at "xx"
          refine ix_lv (lst_of e18) hv2.1 (by omega) ?_
          walk_at "xx"
          refine ⟨_, rfl, s15.trans (s16.trans (s17.trans s18)), ?_⟩
          have q1 := bd_lvr (n := u) hv
          have q2 := bd_lvr (n := v) hv
          rw [Bd.iff] at q1 q2 hc2 ⊢
          omega
        · walk_at "xx"
          exact ⟨_, rfl, Same.refl _, hc2⟩
      obtain ⟨c3, rfl, s14, hc3⟩ := p
      walk_at "xx"
      refine m_ty (lst_of (s14 _ _ f13)) ?_
      walk_at "xx"
      rename_i tp H15 n15 s15 e15
      have lus := t13.length
      rw [List.length_map] at lus
      have S15 := s14.trans s15
      refine m_app (S15 _ _ f13) (small1000 (by omega)) fun H16 c16 e16 => ?_
      have k16 : TK H13 H16 := S15.tk.trans (c16.tk (S15 _ _ f13))
      walk_at "xx"
      refine ⟨_, _, _, _, _, us ++ [.ref tp], ds ++ [(u, v, c3)], rfl, c16.same (s13.trans S15) n12, e16, ?_, by rw [List.length_append, l13]; rfl, fun d hd => ?_⟩
      · rw [List.map_append]
        exact tpSnoc (t13.tk k16) (Tp.tk (c16.tk (S15 _ _ f13)) (.tup e15 (by walk_at "tp")))
      · rcases List.mem_append.mp hd with hd | hd
        · exact b13 d hd
        · rw [List.mem_singleton.mp hd]
          exact ⟨⟨hu.1, hu.2, hv2.1, hv2.2⟩, hc3⟩
    · obtain ⟨z6, z12, z13, z14, z15, us, ds, rfl, s13, f13, t13, l13, b13⟩ := p
      walk_at "xx"
      exact q _ _ _ ds (S11.trans s13) nM f13 t13 (by omega) b13
end
end K17
namespace K17
open PySem PySem.Spec PyProof.Rows L2 Wy WN WQ WS WC WE WO WT WP WB

-- WIDE
theorem path_bd {m : Nat} : ∀ {es : List Df} {u z s : Int}, Path es u z s → (∀ d ∈ es, Bd m d.2.2) → s.natAbs ≤ es.length * 10 ^ m
  | _, _, _, _, .nil, _ => by simp
  | _, _, _, _, .cons (r := r) (u := u) (v := v) (c := c) (s := s) p, h => by
    have h1 := path_bd p fun d hd => h d (List.mem_cons_of_mem _ hd)
    have h2 : c.natAbs < 10 ^ m := h (u, v, c) List.mem_cons_self
    rw [List.length_cons, Nat.add_mul, Nat.one_mul]
    generalize r.length * 10 ^ m = x at *
    generalize 10 ^ m = y at *
    omega
theorem path_nil {u z s : Int} (h : Path [] u z s) : u = z := by
  cases h
  rfl
theorem row1_at {M : Tab} {n k : Nat} (h : Sq2 M n) (hk : k < n) : (row1 M)[k]? = some (cell M 0 (k + 1)) := by
  obtain ⟨row, g1, g2⟩ := cell_at h (Nat.zero_le n) (show k + 1 ≤ n by omega)
  unfold row1
  rw [List.getD_eq_getElem?_getD, g1, List.getElem?_drop, Nat.add_comm]
  exact g2
theorem row1_len {M : Tab} {n : Nat} (h : Sq2 M n) : (row1 M).length = n := by
  unfold row1
  rw [List.length_drop, h.2 _ (List.mem_of_getElem? (row_of h (Nat.zero_le n)))]
  omega
def vals (M : Tab) : List Int := (row1 M).map fun c => -(c.getD (0, [])).1
theorem vals_len {M : Tab} {n : Nat} (h : Sq2 M n) : (vals M).length = n := by
  unfold vals
  rw [List.length_map, row1_len h]
theorem Mean.told_len {n : Nat} {ds : List Df} {M : Tab} (h : Mean n ds M) {i j : Nat} {p : Int × List Int} (hi : i ≤ n) (hj : j ≤ n) (e : cell M i j = some p) : p.2.length ≤ n := by
  obtain ⟨row, g1, g2⟩ := cell_at h.sq hi hj
  rw [e] at g2
  exact h.short row (List.mem_of_getElem? g1) p (List.mem_of_getElem? g2)
/-- the chain of an unknown -/
theorem chain_of {n : Nat} {ds : List Df} {M : Tab} (h : Mean n ds M) (ha : allC M = true) {k : Nat} (hk : k < n) : ∃ p, (row1 M)[k]? = some (some p) ∧ cell M 0 (k + 1) = some p ∧ (vals M)[k]? = some (-p.1) ∧ csum ds p.2 = some (0, (k : Int) + 1, p.1) ∧ p.2.length ≤ n := by
  obtain ⟨p, e⟩ := (allC_iff h.sq).mp ha (k + 1) (by omega) (by omega)
  have g := row1_at h.sq hk
  rw [e] at g
  obtain ⟨t1, t2, t3⟩ := h.told 0 (k + 1) p (Nat.zero_le _) (by omega) e
  refine ⟨p, g, e, by unfold vals; rw [List.getElem?_map, g]; rfl, ?_, Mean.told_len h (Nat.zero_le _) (by omega) e⟩
  have t2 : Path (p.2.map (dsAt ds)) 0 ((k : Int) + 1) p.1 := t2
  refine csum_path t1 t2 fun e0 => ?_
  rw [e0] at t2
  have := path_nil t2
  omega
theorem chain_bd {n m : Nat} {ds : List Df} {M : Tab} (h : Mean n ds M) (hb : ∀ d ∈ ds, Bd m d.2.2) {i j : Nat} {p : Int × List Int} (hi : i ≤ n) (hj : j ≤ n) (e : cell M i j = some p) (hn : n ≤ 99) : Bd (m + 2) p.1 := by
  obtain ⟨t1, t2, t3⟩ := h.told i j p hi hj e
  have b := path_bd (m := m) t2 fun d hd => by
    obtain ⟨k, hk, rfl⟩ := List.mem_map.mp hd
    exact hb _ (dsAt_mem (t1 k hk).1 (t1 k hk).2)
  have l := Mean.told_len h hi hj e
  rw [List.length_map] at b
  have b2 : p.2.length * 10 ^ m ≤ 99 * 10 ^ m := Nat.mul_le_mul_right _ (by omega)
  have hp : 0 < 10 ^ m := Nat.pow_pos (by decide)
  unfold Bd
  rw [Nat.pow_add]
  generalize p.2.length * 10 ^ m = x at *
  generalize 10 ^ m = y at *
  omega
theorem lv_vals {n : Nat} {ds : List Df} {M : Tab} (h : Mean n ds M) (ha : allC M = true) {j : Int} (h0 : 0 ≤ j) (h1 : j ≤ n) : ∃ z, bd M 0 j.toNat = some z ∧ lv (vals M) j = -z := by
  obtain ⟨k, rfl⟩ : ∃ k : Nat, j = k := ⟨j.toNat, by omega⟩
  rw [Int.toNat_natCast]
  unfold lv
  rw [Int.toNat_natCast]
  cases k with
  | zero => exact ⟨0, h.cl.diag 0 (Nat.zero_le _), rfl⟩
  | succ k =>
    obtain ⟨p, _, e, g, _⟩ := chain_of h ha (k := k) (by omega)
    refine ⟨p.1, by unfold bd; rw [e]; rfl, ?_⟩
    rw [List.getD_eq_getElem?_getD, List.getElem?_cons_succ, g]
    rfl
theorem vals_keep {n : Nat} {ds : List Df} {M : Tab} (h : Mean n ds M) (ha : allC M = true) : ds.all (kept (vals M)) = true := by
  rw [List.all_eq_true]
  intro d hd
  obtain ⟨i0, i1, i2, i3⟩ := h.inr d hd
  obtain ⟨x, e1, l1⟩ := h.low d hd
  obtain ⟨a, ea, la⟩ := lv_vals h ha i0 i1
  obtain ⟨b, eb, lb⟩ := lv_vals h ha i2 i3
  obtain ⟨z, ez, lz⟩ := h.cl.tri 0 d.1.toNat d.2.1.toNat a x (Nat.zero_le _) (by omega) (by omega) ea e1
  rw [eb] at ez
  cases ez
  unfold kept
  rw [decide_eq_true_eq]
  omega
theorem rp_vals {n m : Nat} {ds : List Df} {M : Tab} (h : Mean n ds M) (ha : allC M = true) (hb : ∀ d ∈ ds, Bd m d.2.2) (hm : m + 2 ≤ 58) (hn : n ≤ 99) : Rp 1 (n * 201) (.list ((vals M).map PyData.int)) := by
  have := rp_lst (k := 0) (n := 200) (ds := (vals M).map PyData.int) fun x hx => by
    obtain ⟨v, hv, rfl⟩ := List.mem_map.mp hx
    obtain ⟨k, hk, e⟩ := List.getElem_of_mem hv
    have lk : k < n := by
      have := vals_len h.sq
      omega
    obtain ⟨p, _, ec, g, _⟩ := chain_of h ha lk
    rw [List.getElem?_eq_getElem hk, e] at g
    have b := chain_bd h hb (Nat.zero_le _) (by omega) ec hn
    have : v = -p.1 := Option.some.inj g
    subst this
    refine rp_int (bd_mono (n := m + 2) ?_ hm)
    unfold Bd at b ⊢
    rwa [Int.natAbs_neg]
  rw [List.length_map, vals_len h.sq] at this
  exact this
section
variable {P : Program} {w : World} {K : PySem.W.Frag} {mg : Str → Option Value} {base : Heap}
def spIsLeast (K : PySem.W.Frag) : Sp := fun vs H Q _ => ∃ (x a : Addr) (S : Spot) (n : Nat) (us : List V) (ds : List Df) (M : Tab), vs = [.ref x, .ref a, .int n] ∧ SysAt K H x S n ds M ∧ Mean n ds M ∧ allC M = true ∧ 1 ≤ n ∧ n ≤ 12 ∧ H a = some (.lst us) ∧ TpAll H us (ds.map dfD) ∧ ds.length ≤ 100 ∧ (∀ d ∈ ds, Bd 46 d.2.2) ∧ ∀ H', Same H H' → Q (.bl true) H'
theorem k_law_is_least (T : Tx K mg) : WG.CalG P w K mg base 3 "_law_is_least" (spIsLeast K) := by
  refine WG.cal_ofG (N := n_law_is_least) T.d_law_is_least sc_law_is_least (fun _ _ F => F.bindsN fun _ _ _ _ _ _ us hl => match us, hl with | [_, _, _], _ => rfl) (fun vs H Q E h => ?_) (fun f cdv A outer s H vs Q E hr hq h => ?_)
  · obtain ⟨x, a, S, n, us, ds, M, rfl, _⟩ := h
    rfl
  · obtain ⟨x, a, S, n, us, ds, M, rfl, hs, hM, ha, hn1, hn, hA, tA, hd, hb, q⟩ := h
    refine ⟨_, (pss_cons (ps_asg (C8.pe_mt0 (k_System_floors (K := K) T) hr (by first | decide | omega) (pv 0)) (pg_name (i := 3) sc_law_is_least.nd rfl (Or.inl rfl))) (pss_cons (ps_asg (C8.pe_mt0 (k_System_least_values (K := K) T) hr (by first | decide | omega) (pv 0)) (pg_name (i := 4) sc_law_is_least.nd rfl (Or.inl rfl))) (pss_cons (ps_if (PW.pt (pw_or (pt_not (pt_tr (pe_callB (call_isi2 : CallR _ _ (rIsi2 K)) (by rfl) T.z_isinstance (by decide +kernel) (pa_cons (pv 4) (pa_cons (pe_bltn (v := .ty "list") (by rfl) T.z_list (by decide +kernel) rfl) pa_nil))) : PT _ _ (tTr K _))) (pw_or (pt_cmpR (op_ne2 hr.units : OpR _ _ (rNe2 K)) (pe_callB (call_len2 : CallR _ _ (rLn K)) (by rfl) T.z_len (by decide +kernel) (pa_cons (pv 4) pa_nil)) (pv 2) (nomark _)) (pw_or1 (pt_not (pt_tr (pe_callC cc_all (by rfl) T.z_all (by decide +kernel) (pa_cons (pe_lc (own := [("value", 7)]) (g := gName 7) (tt := tYes) (by rfl) sc_law_is_least.nd (pi_list (pv 4) : PI _ _ _ (iList K _)) (blkOk_by (own := [("value", 7)]) (N := n_law_is_least) (sc := defScope s_law_is_least) (by decide +kernel)) (fun _ _ _ _ _ => pg_name (i := 7) sc_law_is_least.nd rfl (Or.inl rfl)) (fun _ _ _ _ _ => pts_nil) (fun _ _ _ _ _ => (C8.pe_c (k_law_is_integer T) hr (by first | decide | omega) (by rfl) (pa_cons (pv 7) pa_nil)))) pa_nil)) : PT _ _ (tTr K _))))))) (pss_one (ps_ret pe_bl)) pss_nil) (pss_cons (ps_if (PW.pt (pw_or (pt_not (pt_tr (pe_callB (call_isi2 : CallR _ _ (rIsi2 K)) (by rfl) T.z_isinstance (by decide +kernel) (pa_cons (pv 3) (pa_cons (pe_bltn (v := .ty "tuple") (by rfl) T.z_tuple (by decide +kernel) rfl) pa_nil))) : PT _ _ (tTr K _))) (pw_or (pt_cmpR (op_ne2 hr.units : OpR _ _ (rNe2 K)) (pe_callB (call_len2 : CallR _ _ (rLn K)) (by rfl) T.z_len (by decide +kernel) (pa_cons (pv 3) pa_nil)) (pv 2) (nomark _)) (pw_or1 (pt_not (pt_tr (C8.pe_c (k_law_kept T) hr (by first | decide | omega) (by rfl) (pa_cons (pv 1) (pa_cons (pv 4) pa_nil))) : PT _ _ (tTr K _))))))) (pss_one (ps_ret pe_bl)) pss_nil) (pss_cons (ps_for PassesOwn.never rfl (pi_range1 (by rfl) T.z_range (pa_cons (pv 2) pa_nil)) (pg_name (i := 5) sc_law_is_least.nd rfl (Or.inl rfl)) (pss_one (ps_if (PW.pt (pw_or (pt_not (pt_tr (C8.pe_c (k_law_are_numbers T) hr (by first | decide | omega) (by rfl) (pa_cons (pe_ix (ix_seq : IxR _ (rIx K)) (pv 3) (pv 5) (fun _ _ => rfl)) pa_nil)) : PT _ _ (tTr K _))) (pw_or1 (pt_cmpR (op_ne2 hr.units : OpR _ _ (rNe2 K)) (C8.pe_c (k_law_sum T) hr (by first | decide | omega) (by rfl) (pa_cons (pv 1) (pa_cons (pe_ix (ix_seq : IxR _ (rIx K)) (pv 3) (pv 5) (fun _ _ => rfl)) pa_nil))) (pe_tup (pa_cons pe_int (pa_cons (pe_op op_add3 (pv 5) pe_int) (pa_cons (pe_un un_neg (pe_ix (ix_seq : IxR _ (rIx K)) (pv 4) (pv 5) (fun _ _ => rfl))) pa_nil)))) (nomark _))))) (pss_one (ps_ret pe_bl)) pss_nil))) (pss_cons (ps_asg (pe_callB (WG.call_reprG hq hr.units : CallR _ _ (rRepr K)) (by rfl) T.z_repr (by decide +kernel) (pa_cons (pv 4) pa_nil)) (pg_name (i := 6) sc_law_is_least.nd rfl (Or.inl rfl))) (pss_cons (ps_asg (pe_op op_add3 (pe_ix (ix_seq : IxR _ (rIx K)) (pv 4) pe_int (fun _ _ => rfl)) pe_int) (pg_sub (pv 4) pe_int set_list)) (pss_cons (ps_expr (pe_bm PySem.F.plainAttrs_list PySem.F.slot_list_append PySem.F.type_list_append mt_append (pv 4) (pa_cons pe_int pa_nil) : PE _ _ (tBM K _ _ _ _))) (pss_one (ps_ret (pe_cmpR (op_eq2 hr.units : OpR _ _ (rEq2 K)) (pe_callB (WG.call_reprG hq hr.units : CallR _ _ (rRepr K)) (by rfl) T.z_repr (by decide +kernel) (pa_cons (C8.pe_mt0 (k_System_least_values (K := K) T) hr (by first | decide | omega) (pv 0)) pa_nil)) (pv 6) (nomark _)))))))))))), ?_⟩
    have lM := row1_len hM.sq
    have lV := vals_len hM.sq
    have hx := hs.ins
    walk_at "xx"
    refine ⟨x, S, n, ds, M, rfl, hs, by omega, fun h => absurd (ha.symm.trans h) (by decide), fun _ fp cs H1 s1 n1 e1 t1 => ?_⟩
    have hx1 := s1 _ _ hx
    walk_at "xx"
    refine ⟨x, S, n, ds, M, rfl, hs.same s1, by omega, fun h => absurd (ha.symm.trans h) (by decide), fun _ lp H2 s2 n2 e2 => ?_⟩
    have e2 : H2 lp = some (.lst ((vals M).map V.int)) := e2
    have S2 := s1.trans s2
    have nlp := s1.free n2
    walk_at "xx"
    refine b_lenL (lst_of e2) ?_
    rw [List.length_map, lV]
    walk_at "xx"
    refine iteNI (fun e => absurd rfl e) fun _ => ?_
    walk_at "xx"
    refine c_acc (xs := (vals M).map V.int) (.inl ⟨rfl, lst_of e2⟩) (One fun _ y _ => y = .bl true) (fun _ _ _ _ _ h => h) (fun i acc H hi h => small1000' (by rw [h.1]; rw [List.length_map] at hi; omega)) One.zero (fun j x H3 acc N M' hx s3 o hN hM' => ?_) (fun D H3 ys nD s3 e3 o => ?_)
    · rw [List.getElem?_map] at hx
      obtain ⟨k, gk, rfl⟩ := Option.map_eq_some_iff.mp hx
      walk_at "xx"
      refine ⟨rfl, ?_⟩
      walk_at "xx"
      refine ⟨k, rfl, ?_⟩
      exact hN _ _ (Same.refl _) (o.snoc (fun _ _ h => h) rfl)
    walk_at "xx"
    refine b_allT (lst_of e3) (fun j y e => o.2 j y e) ?_
    have S3 := S2.trans s3
    have e1' := (s2.trans s3) _ _ e1
    have e2' := s3 _ _ e2
    have t1' := t1.tk (s2.trans s3).tk
    have lcs := t1.length
    rw [List.length_map, lM] at lcs
    clear s1 s2 s3 n1 hx1 e1 t1 S2 e2 e3 nD o
    walk_at "xx"
    refine b_lenT (tup_of e1') ?_
    rw [lcs]
    walk_at "xx"
    refine iteNI (fun e => absurd rfl e) fun _ => ?_
    walk_at "xx"
    refine ⟨a, lp, us, ds, vals M, rfl, .inl (lst_of (S3 _ _ hA)), tA.tk S3.tk, e2', by rw [lV]; exact hM.inr, by omega, by omega, fun H4 s4 => ?_⟩
    rw [vals_keep hM ha]
    have S4 := S3.trans s4
    have e1 := s4 _ _ e1'
    have e2 := s4 _ _ e2'
    have t1 := t1'.tk s4.tk
    clear e1' e2' t1' S3 s4
    walk_at "xx"
    refine f_range (fun i σ H' => ∃ z5, σ = [some (.ref x), some (.ref a), some (.int n), some (.ref fp), some (.ref lp), z5, none, none] ∧ Same H4 H')
      ⟨_, rfl, Same.refl _⟩ (fun i σ H5 hi p => ?_) (fun σ H5 p => ?_)
    · obtain ⟨z5, rfl, s5⟩ := p
      have hi : i < n := by omega
      obtain ⟨p, gp, ec, gv, cs5, lp5⟩ := chain_of hM ha hi
      obtain ⟨u, gu, tu⟩ := tpAt (t1.tk s5.tk) gp
      obtain ⟨c1, rfl, ec1⟩ := tpI tu
      rw [Int.zero_add]
      walk_at "xx"
      refine o_ixT (tup_of (s5 _ _ e1)) (atI_nat gu) ?_
      walk_at "xx"
      refine ⟨c1, p.2, rfl, ec1, by omega, fun H6 s6 => ?_⟩
      walk_at "xx"
      refine o_ixT (tup_of ((s5.trans s6) _ _ e1)) (atI_nat gu) ?_
      walk_at "xx"
      refine ⟨a, c1, us, ds, p.2, rfl, .inl (lst_of ((S4.trans (s5.trans s6)) _ _ hA)), tA.tk (S4.trans (s5.trans s6)).tk, .inr (tup_of (s6 _ _ ec1)), by omega, by omega, fun e => absurd (cs5.symm.trans e) (by simp), fun t e q1 H7 s7 n7 e7 => ?_⟩
      cases (cs5.symm.trans e)
      walk_at "xx"
      have S7 := s5.trans (s6.trans s7)
      refine o_ixL (lst_of (S7 _ _ e2)) (atI_nat (v := .int (-p.1)) (by rw [List.getElem?_map, gv]; rfl)) ?_
      walk_at "xx"
      rename_i q2 H8 n8 s8 e8
      rw [Int.neg_neg] at e8
      refine ne_same (d := dfD (0, (i : Int) + 1, p.1)) (.tup (tup_of (s8 _ _ e7)) (.cons (.int _) (.cons (.int _) (.cons (.int _) .nil)))) (.tup (tup_of e8) (.cons (.int _) (.cons (.int _) (.cons (.int _) .nil)))) (shaped_of (dfD_lay _).1 (by have := (dfD_lay (0, (i : Int) + 1, p.1)).2; omega)) ?_
      walk_at "xx"
      exact ⟨_, rfl, S7.trans s8⟩
    · obtain ⟨z5, rfl, s5⟩ := p
      have e2 := s5 _ _ e2
      have S5 := S4.trans s5
      clear s5 S4 e1 t1
      walk_at "xx"
      have RV := rp_vals hM ha hb (by omega) (by omega)
      refine b_repr (.lst (lst_of e2) (WQ.dp_ints _)) RV (by decide) (by omega) ?_
      generalize hrep : (PyData.list ((vals M).map PyData.int)).shown = kept
      walk_at "xx"
      obtain ⟨p0, _, _, gv0, _, _⟩ := chain_of hM ha (k := 0) (by omega)
      refine o_ixL (lst_of e2) (atI_of (j := 0) rfl (v := .int (-p0.1)) (by rw [List.getElem?_map, gv0]; rfl)) ?_
      walk_at "xx"
      refine st_L e2 (j := 0) (by rw [List.length_map, lV]; exact ixN_nat (j := 0) (by omega)) fun H6 c6 e6 => ?_
      have S6 := c6.same S5 nlp
      walk_at "xx"
      refine m_ty (lst_of e6) ?_
      walk_at "xx"
      refine m_app e6 (small1000 (by rw [List.length_set, List.length_map]; omega)) fun H7 c7 e7 => ?_
      have S7 := c7.same S6 nlp
      have hx7 := S7 _ _ hx
      clear S5 S6 c6 c7 e6 e2
      walk_at "xx"
      refine ⟨x, S, n, ds, M, rfl, hs.same S7, by omega, fun h => absurd (ha.symm.trans h) (by decide), fun _ l2 H8 s8 n8 e8 => ?_⟩
      have e8 : H8 l2 = some (.lst ((vals M).map V.int)) := e8
      walk_at "xx"
      refine b_repr (.lst (lst_of e8) (WQ.dp_ints _)) RV (by decide) (by omega) ?_
      rw [hrep]
      walk_at "xx"
      rw [decide_eq_true rfl]
      exact q _ (S7.trans s8)
end
end K17
namespace K17
open PySem PySem.Spec PyProof.Rows L2 Wy WN WQ WS WC WE WO WT WP WB

-- WIDE
theorem path_lo {B : Int} (hB : 0 ≤ B) : ∀ {es : List Df} {u z s : Int}, Path es u z s → (∀ d ∈ es, -B ≤ d.2.2) → -(es.length * B) ≤ s
  | _, _, _, _, .nil, _ => by simp
  | _, _, _, _, .cons (r := r) (u := u) (v := v) (c := c) (s := s) p, h => by
    have h1 := path_lo hB p fun d hd => h d (List.mem_cons_of_mem _ hd)
    have h2 : -B ≤ c := h (u, v, c) List.mem_cons_self
    rw [List.length_cons, Int.natCast_add, Int.add_mul]
    generalize (r.length : Int) * B = x at *
    omega
def far (i : Nat) : List Df := (List.range i).map fun (k : Nat) => ((0 : Int), (k : Int) + 1, (10 : Int) ^ 45)
theorem far_succ (i : Nat) : far (i + 1) = far i ++ [((0 : Int), (i : Int) + 1, (10 : Int) ^ 45)] := by
  unfold far
  rw [List.range_succ, List.map_append]
  rfl
theorem far_mem {i : Nat} {d : Df} (h : d ∈ far i) : ∃ k : Nat, k < i ∧ d = ((0 : Int), (k : Int) + 1, (10 : Int) ^ 45) := by
  obtain ⟨k, hk, rfl⟩ := List.mem_map.mp h
  exact ⟨k, List.mem_range.mp hk, rfl⟩
theorem far_len (i : Nat) : (far i).length = i := by simp [far]
/-- a far floor closes no ring -/
theorem far_ring {n : Nat} {ds : List Df} {M : Tab} {i : Nat} (h : Mean n ds M) (hb : ∀ d ∈ ds, -(10 ^ 43 : Int) ≤ d.2.2) (hn : n ≤ 12) (hi : i < n) : ringOf M ((0 : Int), (i : Int) + 1, (10 : Int) ^ 45) = none := by
  cases e : ringOf M ((0 : Int), (i : Int) + 1, (10 : Int) ^ 45) with
  | none => rfl
  | some r =>
    exfalso
    unfold ringOf at e
    have e : (match cell M (i + 1) 0 with | some b => if (10 : Int) ^ 45 + b.1 < 0 then some b.2 else none | none => none) = some r := e
    cases ec : cell M (i + 1) 0 with
    | none =>
      rw [ec] at e
      cases e
    | some b =>
      rw [ec] at e
      have e : (if (10 : Int) ^ 45 + b.1 < 0 then some b.2 else none) = some r := e
      split at e
      · rename_i hlt
        obtain ⟨t1, t2, t3⟩ := h.told (i + 1) 0 b (by omega) (by omega) ec
        have lo := path_lo (B := 10 ^ 43) (by decide) t2 fun d hd => by
          obtain ⟨k, hk, rfl⟩ := List.mem_map.mp hd
          exact hb _ (dsAt_mem (t1 k hk).1 (t1 k hk).2)
        have l := Mean.told_len h (by omega) (by omega) ec
        rw [List.length_map] at lo
        have : (b.2.length : Int) * 10 ^ 43 ≤ 12 * 10 ^ 43 := Int.mul_le_mul_of_nonneg_right (by omega) (by decide)
        omega
      · cases e
theorem far_all {n : Nat} {ds : List Df} {M : Tab} (h : Mean n (ds ++ far n) M) : allC M = true := by
  rw [allC_iff h.sq]
  intro j h1 h2
  obtain ⟨z, ez, _⟩ := h.low ((0 : Int), ((j - 1 : Nat) : Int) + 1, (10 : Int) ^ 45) (List.mem_append_right _ (List.mem_map.mpr ⟨j - 1, List.mem_range.mpr (by omega), rfl⟩))
  have ez : bd M 0 (((j - 1 : Nat) : Int) + 1).toNat = some z := ez
  rw [show (((j - 1 : Nat) : Int) + 1).toNat = j by omega] at ez
  obtain ⟨c, ec, _⟩ := Option.map_eq_some_iff.mp ez
  exact ⟨c, ec⟩
theorem dfs_shaped (ds : List Df) : SeqAt.shaped (.list (ds.map dfD)) = true := shL dfD ds 1 (by decide) fun d _ => dfD_lay d
section
variable {P : Program} {w : World} {K : PySem.W.Frag} {mg : Str → Option Value} {base : Heap}
def spFits (K : PySem.W.Frag) : Sp := fun vs H Q _ => ∃ (x a : Addr) (S : Spot) (n : Nat) (us : List V) (ds : List Df) (M : Tab), vs = [.ref x, .ref a, .int n] ∧ SysAt K H x S n ds M ∧ Mean n ds M ∧ 1 ≤ n ∧ n ≤ 12 ∧ H a = some (.lst us) ∧ TpAll H us (ds.map dfD) ∧ ds.length ≤ 80 ∧ (∀ d ∈ ds, Bd 43 d.2.2) ∧ ∀ H', Same H H' → Q (.bl true) H'
theorem k_law_fits (T : Tx K mg) : WG.CalG P w K mg base 6 "_law_fits" (spFits K) := by
  refine WG.cal_ofG (N := n_law_fits) T.d_law_fits sc_law_fits (fun _ _ F => F.bindsN fun _ _ _ _ _ _ us hl => match us, hl with | [_, _, _], _ => rfl) (fun vs H Q E h => ?_) (fun f cdv A outer s H vs Q E hr hq h => ?_)
  · obtain ⟨x, a, S, n, us, ds, M, rfl, _⟩ := h
    rfl
  · obtain ⟨x, a, S, n, us, ds, M, rfl, hs, hM, hn1, hn, hA, tA, hd, hb, q⟩ := h
    refine ⟨_, (pss_cons (ps_if (PW.pt (pw_or (pt_not (pt_tr (pe_callB (call_isi2 : CallR _ _ (rIsi2 K)) (by rfl) T.z_isinstance (by decide +kernel) (pa_cons (WO.pe_fldK (K := K) (pv 0)) (pa_cons (pe_bltn (v := .ty "list") (by rfl) T.z_list (by decide +kernel) rfl) pa_nil))) : PT _ _ (tTr K _))) (pw_or1 (pt_cmpR (op_ne2 hr.units : OpR _ _ (rNe2 K)) (WO.pe_fldK (K := K) (pv 0)) (pv 1) (nomark _))))) (pss_one (ps_ret pe_bl)) pss_nil) (pss_cons (ps_if (pt_tr (C8.pe_c (k_law_reached T) hr (by first | decide | omega) (by rfl) (pa_cons (pv 1) (pa_cons (pv 2) pa_nil))) : PT _ _ (tTr K _)) (pss_one (ps_ret (WG.pe_cG (k_law_is_least T) hr (by first | decide | omega) hq (by rfl) (pa_cons (pv 0) (pa_cons (pv 1) (pa_cons (pv 2) pa_nil)))))) pss_nil) (pss_cons (ps_if (PW.pt (pw_or (pt_cmpR op_ntN2 (C8.pe_mt0 (k_System_floors (K := K) T) hr (by first | decide | omega) (pv 0)) pe_non (nomark _)) (pw_or1 (pt_cmpR op_ntN2 (C8.pe_mt0 (k_System_least_values (K := K) T) hr (by first | decide | omega) (pv 0)) pe_non (nomark _))))) (pss_one (ps_ret pe_bl)) pss_nil) (pss_cons (ps_asg (C8.pe_mt0 (k_System_twin (K := K) T) hr (by first | decide | omega) (pv 0)) (pg_name (i := 3) sc_law_fits.nd rfl (Or.inl rfl))) (pss_cons (ps_asg (pe_callTy (call_lst : CallR _ _ (rLst K)) (by rfl) T.z_list (by decide +kernel) (pa_cons (pv 1) pa_nil)) (pg_name (i := 4) sc_law_fits.nd rfl (Or.inl rfl))) (pss_cons (ps_for PassesOwn.never rfl (pi_range1 (by rfl) T.z_range (pa_cons (pv 2) pa_nil)) (pg_name (i := 5) sc_law_fits.nd rfl (Or.inl rfl)) (pss_cons (ps_expr (pe_bm PySem.F.plainAttrs_list PySem.F.slot_list_append PySem.F.type_list_append mt_append (pv 4) (pa_cons (pe_tup (pa_cons pe_int (pa_cons (pe_op op_add3 (pv 5) pe_int) (pa_cons (pe_op op_pow pe_int pe_int) pa_nil)))) pa_nil) : PE _ _ (tBM K _ _ _ _))) (pss_one (ps_if (pt_cmpR op_ntN2 (C8.pe_mt (k_System_tie (K := K) T) hr (by first | decide | omega) (pv 3) (pa_cons (pe_ix (ix_seq : IxR _ (rIx K)) (pv 4) (pe_un un_neg pe_int) (fun _ _ => rfl)) pa_nil)) pe_non (nomark _)) (pss_one (ps_ret pe_bl)) pss_nil)))) (pss_one (ps_ret (WG.pe_cG (k_law_is_least T) hr (by first | decide | omega) hq (by rfl) (pa_cons (pv 3) (pa_cons (pv 4) (pa_cons (pv 2) pa_nil)))))))))))), ?_⟩
    have cl := T.c_System
    have a2 := T.a_System_differences
    have hx := hs.ins
    obtain ⟨us2, eD, tD⟩ := hs.diffs
    walk_at "xx"
    refine ne_same (d := .list (ds.map dfD)) (.lst (lst_of eD) tD.dp) (.lst (lst_of hA) tA.dp) (dfs_shaped ds) ?_
    walk_at "xx"
    refine ⟨a, us, n, ds, M, rfl, hA, tA, hM, by omega, by omega, fun H1 s1 => ?_⟩
    have hx1 := s1 _ _ hx
    cases ha : allC M with
    | true =>
      walk_at "xx"
      refine ⟨x, a, S, n, us, ds, M, rfl, hs.same s1, hM, ha, hn1, hn, s1 _ _ hA, tA.tk s1.tk, by omega, fun d h => bd_mono (hb d h) (by decide), fun H2 s2 => ?_⟩
      exact q _ (s1.trans s2)
    | false =>
      walk_at "xx"
      refine ⟨x, S, n, ds, M, rfl, hs.same s1, by omega, fun _ H2 s2 => ?_, fun h => absurd (ha.symm.trans h) (by decide)⟩
      have S2 := s1.trans s2
      have hx2 := S2 _ _ hx
      walk_at "xx"
      refine ⟨x, S, n, ds, M, rfl, hs.same S2, by omega, fun _ H3 s3 => ?_, fun h => absurd (ha.symm.trans h) (by decide)⟩
      have S3 := S2.trans s3
      have hx3 := S3 _ _ hx
      clear s1 s2 s3 hx1 hx2 S2
      walk_at "xx"
      refine ⟨x, S, n, ds, M, rfl, hs.same S3, by omega, by omega, fun y Sy H4 s4 hy ny nl etp ers => ?_⟩
      have S4 := S3.trans s4
      have ny := S3.free ny
      have nl := S3.free nl
      clear s4 hx3 S3
      walk_at "xx"
      refine ls_new (lst_of (S4 _ _ hA)) fun wp H5 n5 s5 e5 => ?_
      have S5 := S4.trans s5
      have nw := S4.free n5
      have hy5 := hy.same s5
      have hw : wp ≠ y ∧ wp ≠ Sy.dl ∧ wp ≠ Sy.tp ∧ wp ∉ Sy.rs := by
        obtain ⟨ud, ed, _⟩ := hy.diffs
        refine ⟨(ne_of_none hy.ins n5).symm, (ne_of_none ed n5).symm, (ne_of_none hy.tab n5).symm, fun hm => ?_⟩
        obtain ⟨i, hi, e⟩ := List.getElem_of_mem hm
        have hi' : i < M.length := by
          have := hy.len
          omega
        obtain ⟨cs, ec, _⟩ := hy.rows i _ _ (List.getElem?_eq_getElem hi) (List.getElem?_eq_getElem hi')
        rw [e, n5] at ec
        cases ec
      have t5 := tA.tk S5.tk
      clear hy S4 s5 n5
      walk_at "xx"
      refine f_range (fun i σ H' => ∃ z5 Sy' ws M', σ = [some (.ref x), some (.ref a), some (.int n), some (.ref y), some (.ref wp), z5] ∧ Same H H' ∧ SysAt K H' y Sy' n (ds ++ far i) M' ∧ Mean n (ds ++ far i) M' ∧ H' wp = some (.lst ws) ∧ TpAll H' ws ((ds ++ far i).map dfD) ∧ Sy'.dl = Sy.dl ∧ wp ≠ Sy'.tp ∧ wp ∉ Sy'.rs)
        ⟨_, Sy, us, M, rfl, S5, by rw [show far 0 = [] from rfl, List.append_nil]; exact hy5, by rw [show far 0 = [] from rfl, List.append_nil]; exact hM, e5, by rw [show far 0 = [] from rfl, List.append_nil]; exact t5, rfl, hw.2.2.1, hw.2.2.2⟩ (fun i σ H6 hi p => ?_) (fun σ H6 p => ?_)
      · obtain ⟨z5, Sy', ws, M', rfl, s6, hy6, hM6, e6, t6, edl, hw1, hw2⟩ := p
        have hi : i < n := by omega
        have lws := t6.length
        rw [List.length_map, List.length_append, far_len] at lws
        have hyi := hy6.ins
        rw [Int.zero_add]
        walk_at "xx"
        refine m_ty (lst_of e6) ?_
        walk_at "xx"
        rename_i tp H7 n7 s7 e7
        refine m_app (s7 _ _ e6) (small1000 (by omega)) fun H8 c8 e8 => ?_
        have k8 : TK H6 H8 := s7.tk.trans (c8.tk (s7 _ _ e6))
        have S8 := c8.same (s6.trans s7) nw
        have hy8 : SysAt K H8 y Sy' n (ds ++ far i) M' := hy6.keep (A := [wp]) ((Same.but s7).trans (Chg.but c8 (by simp))) k8 (by simp only [List.mem_singleton]; exact hw.1.symm) (by simp only [List.mem_singleton]; rw [edl]; exact hw.2.1.symm) (by simp only [List.mem_singleton]; exact hw1.symm) (fun r hr => by simp only [List.mem_singleton]; exact fun e => hw2 (e ▸ hr))
        have ntp : tp ≠ wp := by
          have := s7 _ _ e6
          exact fun e => by rw [e, this] at e7; cases e7
        have e7 := c8.at e7 ntp
        have hyi := hy8.ins
        walk_at "xx"
        refine o_ixL (lst_of e8) (atI_last _ _) ?_
        walk_at "xx"
        have td : Tp H8 (.ref tp) (dfD ((0 : Int), (i : Int) + 1, (10 : Int) ^ 45)) := .tup e7 (by walk_at "tp")
        have inr : InR n ((0 : Int), (i : Int) + 1, (10 : Int) ^ 45) := ⟨by show (0 : Int) ≤ 0; decide, by show (0 : Int) ≤ n; omega, by show (0 : Int) ≤ (i : Int) + 1; omega, by show (i : Int) + 1 ≤ n; omega⟩
        have hrn : ringOf M' ((0 : Int), (i : Int) + 1, (10 : Int) ^ 45) = none := far_ring hM6 (fun d hd => by
          rcases List.mem_append.mp hd with hd | hd
          · have := hb d hd
            rw [Bd.iff] at this
            omega
          · obtain ⟨k, _, rfl⟩ := far_mem hd
            show -(10 ^ 43 : Int) ≤ 10 ^ 45
            decide +kernel) hn hi
        refine ⟨y, .ref tp, Sy', n, ds ++ far i, M', _, n, rfl, hy8, td, inr, by rw [List.length_append, far_len]; omega, by omega, hM6.short, by omega, fun bs e => absurd (hrn.symm.trans e) (by simp), fun _ H9 S9 k9 hy9 _ e2 e3 e4 => ?_⟩
        walk_at "xx"
        have nA : ∀ b, H8 b = none → H b = none := fun b => S8.free
        have k9' : KeepBut [y, Sy'.dl] H8 H9 := k9
        have tk9 : TK H8 H9 := k9.tk fun b hb => by
          simp only [List.mem_cons, List.not_mem_nil, or_false] at hb
          rcases hb with rfl | rfl
          · exact ⟨_, hy8.ins, rfl⟩
          · obtain ⟨ud, ed, _⟩ := hy8.diffs
            exact ⟨_, ed, rfl⟩
        have S9' : Same H H9 := fun b o e => by
          have e8 := S8 _ _ e
          refine k9 b o (fun hm => ?_) e8
          simp only [List.mem_cons, List.not_mem_nil, or_false] at hm
          rcases hm with rfl | rfl
          · rw [ny] at e
            cases e
          · rw [edl, nl] at e
            cases e
        have eM := hM6.tie inr hrn
        rw [List.append_assoc, ← far_succ] at eM hy9
        have hwA : wp ∉ [y, Sy'.dl] := by
          simp only [List.mem_cons, List.not_mem_nil, or_false, not_or]
          exact ⟨hw.1, by rw [edl]; exact hw.2.1⟩
        refine ⟨_, S9, _, _, rfl, S9', hy9, eM, k9 _ _ hwA e8, ?_, by rw [e2, edl], ?_, fun hr => ?_⟩
        · rw [far_succ, ← List.append_assoc, List.map_append]
          exact (tpSnoc (t6.tk k8) td).tk tk9
        · rcases e3 with e3 | e3
          · rw [e3]
            exact hw1
          · exact ne_of_none e8 e3
        · rcases e4 _ hr with e4 | e4
          · exact hw2 e4
          · rw [e8] at e4
            cases e4
      · obtain ⟨z5, Sy', ws, M', rfl, s6, hy6, hM6, e6, t6, edl, hw1, hw2⟩ := p
        rw [Int.toNat_natCast] at hy6 hM6 t6
        walk_at "xx"
        refine ⟨y, wp, Sy', n, ws, ds ++ far n, M', rfl, hy6, hM6, far_all hM6, hn1, hn, e6, t6, by rw [List.length_append, far_len]; omega, fun d hd => ?_, fun H7 s7 => ?_⟩
        · rcases List.mem_append.mp hd with hd | hd
          · exact bd_mono (hb d hd) (by decide)
          · obtain ⟨k, _, rfl⟩ := far_mem hd
            show Bd 46 ((10 : Int) ^ 45)
            unfold Bd
            decide +kernel
        · exact q _ (s6.trans s7)
def tl (e : Bool) : List V := if e then [.bl true] else []
def spGoes (K : PySem.W.Frag) : Sp := fun vs H Q _ => ∃ (x a b : Addr) (S : Spot) (n : Nat) (us um : List V) (ds more : List Df) (M : Tab), vs = [.ref x, .ref a, .ref b, .int n] ∧ SysAt K H x S n ds M ∧ Mean n ds M ∧ 1 ≤ n ∧ n ≤ 12 ∧ H a = some (.lst us) ∧ TpAll H us (ds.map dfD) ∧ H b = some (.lst um) ∧ TpAll H um (more.map dfD) ∧
  ds.length + more.length ≤ 80 ∧ (∀ d ∈ ds, Bd 43 d.2.2) ∧ (∀ d ∈ more, InR n d ∧ Bd 43 d.2.2) ∧ a ≠ S.dl ∧ a ∉ S.rs ∧ a ≠ S.tp ∧ b ≠ a ∧ b ≠ S.dl ∧
  ∀ (e : Bool) p H', KeepBut [x, S.dl, a] H H' → H' p = some (.lst (tl e)) → (e = false → ∃ S' M' us', SysAt K H' x S' n (ds ++ more) M' ∧ Mean n (ds ++ more) M' ∧ S'.dl = S.dl ∧ (S'.tp = S.tp ∨ H S'.tp = none) ∧ (∀ r ∈ S'.rs, r ∈ S.rs ∨ H r = none) ∧ H' a = some (.lst us') ∧ TpAll H' us' ((ds ++ more).map dfD)) → Q (.ref p) H'
theorem k_law_goes (T : Tx K mg) : WG.CalG P w K mg base 7 "_law_goes" (spGoes K) := by
  refine WG.cal_ofG (N := n_law_goes) T.d_law_goes sc_law_goes (fun _ _ F => F.bindsN fun _ _ _ _ _ _ us hl => match us, hl with | [_, _, _, _], _ => rfl) (fun vs H Q E h => ?_) (fun f cdv A outer s H vs Q E hr hq h => ?_)
  · obtain ⟨x, a, b, S, n, us, um, ds, more, M, rfl, _⟩ := h
    rfl
  · obtain ⟨x, a, b, S, n, us, um, ds, more, M, rfl, hs, hM, hn1, hn, hA, tA, hB, tB, hl, hd, hm, a1, a2, a3, b1, b2, q⟩ := h
    refine ⟨_, (pss_cons (ps_for PassesOwn.never rfl (pi_list (pv 2) : PI _ _ _ (iList K _)) (pg_name (i := 4) sc_law_goes.nd rfl (Or.inl rfl)) (pss_cons (ps_asg (C8.pe_mt (k_System_tie (K := K) T) hr (by first | decide | omega) (pv 0) (pa_cons (pv 4) pa_nil)) (pg_name (i := 5) sc_law_goes.nd rfl (Or.inl rfl))) (pss_cons (ps_expr (pe_bm PySem.F.plainAttrs_list PySem.F.slot_list_append PySem.F.type_list_append mt_append (pv 1) (pa_cons (pv 4) pa_nil) : PE _ _ (tBM K _ _ _ _))) (pss_cons (ps_if (pt_cmpR op_ntN2 (pv 5) pe_non (nomark _)) (pss_one (ps_ret (pe_lst (pa_cons (C8.pe_c (k_law_is_ring T) hr (by first | decide | omega) (by rfl) (pa_cons (pv 1) (pa_cons (pv 5) pa_nil))) pa_nil)))) pss_nil) (pss_one (ps_if (pt_not (pt_tr (WG.pe_cG (k_law_fits T) hr (by first | decide | omega) hq (by rfl) (pa_cons (pv 0) (pa_cons (pv 1) (pa_cons (pv 3) pa_nil)))) : PT _ _ (tTr K _))) (pss_one (ps_ret (pe_lst (pa_cons pe_bl pa_nil)))) pss_nil)))))) (pss_one (ps_ret (pe_lst pa_nil)))), ?_⟩
    obtain ⟨usd, eD, tD⟩ := hs.diffs
    have hx := hs.ins
    have ax : a ≠ x := ne_of hA hx (by intro z; cases z)
    have bx : b ≠ x := ne_of hB hx (by intro z; cases z)
    have lum := tB.length
    rw [List.length_map] at lum
    have nots : ∀ c ∈ [x, S.dl, a], ∃ o, H c = some o ∧ noTup o = true := fun c hc => by
      simp only [List.mem_cons, List.not_mem_nil, or_false] at hc
      rcases hc with rfl | rfl | rfl
      · exact ⟨_, hx, rfl⟩
      · exact ⟨_, eD, rfl⟩
      · exact ⟨_, hA, rfl⟩
    have back : ∀ {H' : Hp}, KeepBut [x, S.dl, a] H H' → H' x ≠ none → H' S.dl ≠ none → H' a ≠ none → ∀ c, H' c = none → H c = none := fun {H'} k h1 h2 h3 c hc => by
      cases e : H c with
      | none => rfl
      | some o =>
        by_cases hm : c ∈ [x, S.dl, a]
        · simp only [List.mem_cons, List.not_mem_nil, or_false] at hm
          rcases hm with rfl | rfl | rfl
          · exact absurd hc h1
          · exact absurd hc h2
          · exact absurd hc h3
        · rw [k c o hm e] at hc
          cases hc
    walk_at "xx"
    refine f_list (xs := um) (fun i σ H' => ∃ z4 z5 S' M' us', σ = [some (.ref x), some (.ref a), some (.ref b), some (.int n), z4, z5] ∧ KeepBut [x, S.dl, a] H H' ∧ SysAt K H' x S' n (ds ++ more.take i) M' ∧ Mean n (ds ++ more.take i) M' ∧ S'.dl = S.dl ∧ (S'.tp = S.tp ∨ H S'.tp = none) ∧ (∀ r ∈ S'.rs, r ∈ S.rs ∨ H r = none) ∧ H' a = some (.lst us') ∧ TpAll H' us' ((ds ++ more.take i).map dfD))
      ⟨_, _, S, M, us, rfl, KeepBut.refl, by rw [List.take_zero, List.append_nil]; exact hs, by rw [List.take_zero, List.append_nil]; exact hM, rfl, .inl rfl, fun r hr => .inl hr, hA, by rw [List.take_zero, List.append_nil]; exact tA⟩ (fun i σ H' hi p => ?_) (fun i z σ H1 hz p => ?_) (fun σ H1 p => ?_)
    · obtain ⟨_, _, _, _, _, rfl, k1, _⟩ := p
      exact lst_of (k1 _ _ (by simp only [List.mem_cons, List.not_mem_nil, or_false, not_or]; exact ⟨bx, b2, b1⟩) hB)
    · obtain ⟨z4, z5, S', M', us', rfl, k1, hs1, hM1, edl, etp, ers, eA, tA1⟩ := p
      have tk1 : TK H H1 := k1.tk nots
      obtain ⟨d, gd, td⟩ := tpGet (tB.tk tk1) hz
      have hi : i < more.length := (List.getElem?_eq_some_iff.mp gd).1
      have tk : more.take (i + 1) = more.take i ++ [d] := by rw [List.take_succ, gd]; rfl
      obtain ⟨inr, bdd⟩ := hm d (List.mem_of_getElem? gd)
      have lt : (ds ++ more.take i).length ≤ 80 := by rw [List.length_append, List.length_take]; omega
      obtain ⟨ud1, eD1, tD1⟩ := hs1.diffs
      have hx1 := hs1.ins
      have nn : ∀ c, H1 c = none → H c = none := back k1 (by rw [hx1]; simp) (by rw [← edl, eD1]; simp) (by rw [eA]; simp)
      have aS : a ≠ S'.dl ∧ a ≠ S'.tp ∧ a ∉ S'.rs := by
        refine ⟨edl ▸ a1, ?_, fun hr => ?_⟩
        · rcases etp with e | e
          · rw [e]
            exact a3
          · exact ne_of_none hA e
        · rcases ers _ hr with e | e
          · exact a2 e
          · rw [hA] at e
            cases e
      have keep3 : ∀ {H2 : Hp}, KeepBut [x, S'.dl] H1 H2 → KeepBut [x, S.dl, a] H H2 := fun {H2} k => k1.trans (k.mono fun c hc => by
        simp only [List.mem_cons, List.not_mem_nil, or_false] at hc ⊢
        rcases hc with rfl | rfl
        · exact .inl rfl
        · exact .inr (.inl edl))
      have aN : a ∉ [x, S'.dl] := by
        simp only [List.mem_cons, List.not_mem_nil, or_false, not_or]
        exact ⟨ax, aS.1⟩
      have nots1 : ∀ c ∈ [x, S'.dl], ∃ o, H1 c = some o ∧ noTup o = true := fun c hc => by
        simp only [List.mem_cons, List.not_mem_nil, or_false] at hc
        rcases hc with rfl | rfl
        · exact ⟨_, hx1, rfl⟩
        · exact ⟨_, eD1, rfl⟩
      have lus' := tA1.length
      rw [List.length_map] at lus'
      have blds : ∀ e ∈ ds ++ more.take (i + 1), Bd 43 e.2.2 := fun e he => by
        rcases List.mem_append.mp he with he | he
        · exact hd e he
        · exact (hm e (List.mem_of_mem_take he)).2
      walk_at "xx"
      refine ⟨x, z, S', n, ds ++ more.take i, M', d, n, rfl, hs1, td, inr, by omega, by omega, hM1.short, by omega, fun bs er rp H2 k2 n2 e2 => ?_, fun er H2 S2 k2 hs2 ex2 ed2 et2 eR2 => ?_⟩
      · have k2' : KeepBut [x, S'.dl] H1 H2 := k2.mono (by simp)
        have eA2 := k2' _ _ aN eA
        have tk2 : TK H1 H2 := k2'.tk nots1
        walk_at "xx"
        refine m_ty (lst_of eA2) ?_
        walk_at "xx"
        refine m_app eA2 (small1000 (by omega)) fun H3 c3 e3 => ?_
        have nra : rp ≠ a := (ne_of_none eA n2).symm
        have e2' := c3.at e2 nra
        have tk3 : TK H1 H3 := tk2.trans (c3.tk eA2)
        have t3 : TpAll H3 (us' ++ [z]) ((ds ++ more.take (i + 1)).map dfD) := by
          rw [tk, ← List.append_assoc, List.map_append]
          exact tpSnoc (tA1.tk tk3) (td.tk tk3)
        obtain ⟨s, ec, hs0⟩ := hM1.ring inr er
        rw [List.append_assoc, ← tk] at ec
        walk_at "xx"
        refine ⟨a, rp, us' ++ [z], ds ++ more.take (i + 1), ((ds ++ more.take i).length : Int) :: bs, d.1, s, rfl, .inl (lst_of e3), t3, e2', by rw [List.length_append, List.length_take]; omega, ?_, ec, hs0, fun H4 s4 => ?_⟩
        · unfold ringOf at er
          cases ecc : cell M' d.2.1.toNat d.1.toNat with
          | none =>
            rw [ecc] at er
            cases er
          | some pp =>
            rw [ecc] at er
            have er : (if d.2.2 + pp.1 < 0 then some pp.2 else none) = some bs := er
            split at er
            · cases er
              obtain ⟨i0, i1, i2, i3⟩ := inr
              have := Mean.told_len hM1 (i := d.2.1.toNat) (j := d.1.toNat) (by omega) (by omega) ecc
              rw [List.length_cons]
              omega
            · cases er
        · walk_at "xx"
          rename_i lp H5 n5 s5 e5
          exact q true lp H5 ((keep3 k2').trans ((Chg.but c3 (by simp)).trans (Same.but (s4.trans s5)))) e5 (fun h => by cases h)
      · have eA2 := k2 _ _ aN eA
        have tk2 : TK H1 H2 := k2.tk nots1
        walk_at "xx"
        refine m_ty (lst_of eA2) ?_
        walk_at "xx"
        refine m_app eA2 (small1000 (by omega)) fun H3 c3 e3 => ?_
        have tk3 : TK H1 H3 := tk2.trans (c3.tk eA2)
        have t3 : TpAll H3 (us' ++ [z]) ((ds ++ more.take (i + 1)).map dfD) := by
          rw [tk, ← List.append_assoc, List.map_append]
          exact tpSnoc (tA1.tk tk3) (td.tk tk3)
        have hM2 := hM1.tie inr er
        rw [List.append_assoc, ← tk] at hM2 hs2
        have aS2 : a ≠ S2.tp ∧ a ∉ S2.rs := by
          refine ⟨?_, fun hr => ?_⟩
          · rcases et2 with e | e
            · rw [e]
              exact aS.2.1
            · exact ne_of_none eA e
          · rcases eR2 _ hr with e | e
            · exact aS.2.2 e
            · rw [eA] at e
              cases e
        have hs3 : SysAt K H3 x S2 n (ds ++ more.take (i + 1)) (tieM M' d (ds ++ more.take i).length) := hs2.keep (A := [a]) (Chg.but c3 (by simp)) (c3.tk eA2) (by simp only [List.mem_singleton]; exact ax.symm) (by simp only [List.mem_singleton]; rw [ed2]; exact aS.1.symm) (by simp only [List.mem_singleton]; exact aS2.1.symm) (fun r hr => by simp only [List.mem_singleton]; exact fun e => aS2.2 (e ▸ hr))
        have k3 : KeepBut [x, S.dl, a] H H3 := (keep3 k2).trans (Chg.but c3 (by simp))
        walk_at "xx"
        refine ⟨x, a, S2, n, _, ds ++ more.take (i + 1), _, rfl, hs3, hM2, hn1, hn, e3, t3, by rw [List.length_append, List.length_take]; omega, blds, fun H4 s4 => ?_⟩
        walk_at "xx"
        refine ⟨_, _, S2, _, _, rfl, k3.trans (Same.but s4), hs3.same s4, hM2, by rw [ed2, edl], ?_, fun r hr => ?_, s4 _ _ e3, t3.tk s4.tk⟩
        · rcases et2 with e | e
          · rw [e]
            exact etp
          · exact .inr (nn _ e)
        · rcases eR2 _ hr with e | e
          · exact ers _ e
          · exact .inr (nn _ e)
    · obtain ⟨z4, z5, S', M', us', rfl, k1, hs1, hM1, edl, etp, ers, eA, tA1⟩ := p
      rw [lum, List.take_length] at hs1 hM1 tA1
      obtain ⟨ud1, eD1, tD1⟩ := hs1.diffs
      have hx1 := hs1.ins
      walk_at "xx"
      rename_i lp H2 n2 s2 e2
      exact q false lp H2 (k1.trans (Same.but s2)) e2 fun _ => ⟨S', M', us', hs1.same s2, hM1, edl, etp, ers, s2 _ _ eA, tA1.tk s2.tk⟩
end
end K17
namespace K17
open PySem PySem.Spec PyProof.Rows L2 Wy WN WQ WS WC WE WO WT WP WB

-- WIDE
theorem One.intsP {P : Nat → V → Hp → Prop} {R : Int → Prop} {n : Nat} {acc : List V} {H : Hp} (o : One P n acc H) (h : ∀ j y, j < n → P j y H → ∃ i : Int, y = .int i ∧ R i) : ∃ xs : List Int, acc = xs.map V.int ∧ xs.length = n ∧ ∀ x ∈ xs, R x := by
  obtain ⟨xs, e, l⟩ := o.ints fun j y hj p => by
    obtain ⟨i, e, _⟩ := h j y hj p
    exact ⟨i, e⟩
  refine ⟨xs, e, l, fun x hx => ?_⟩
  obtain ⟨j, gj⟩ := List.getElem?_of_mem hx
  have hj : j < n := by
    have := (List.getElem?_eq_some_iff.mp gj).1
    omega
  have ga : acc[j]? = some (.int x) := by rw [e, List.getElem?_map, gj]; rfl
  obtain ⟨i, e2, r⟩ := h j _ hj (o.2 j _ ga)
  cases e2
  exact r
section
variable {K : PySem.W.Frag} {H H' : Hp} {x c : Addr} {S : Spot} {n : Nat} {ds : List Df} {M : Tab}
theorem SysAt.fresh (s : SysAt K H x S n ds M) (h : H c = none) : x ≠ c ∧ S.dl ≠ c ∧ S.tp ≠ c ∧ ∀ r ∈ S.rs, r ≠ c := by
  obtain ⟨ud, ed, _⟩ := s.diffs
  refine ⟨ne_of_none s.ins h, ne_of_none ed h, ne_of_none s.tab h, fun r hr e => ?_⟩
  obtain ⟨i, hi, g⟩ := List.getElem_of_mem hr
  have hi' : i < M.length := by
    have := s.len
    omega
  obtain ⟨cs, ec, _⟩ := s.rows i _ _ (List.getElem?_eq_getElem hi) (List.getElem?_eq_getElem hi')
  rw [g, e, h] at ec
  cases ec
theorem SysAt.self (s : SysAt K H x S n ds M) : S.dl ≠ x ∧ S.tp ≠ x ∧ ∀ r ∈ S.rs, r ≠ x := by
  obtain ⟨ud, ed, _⟩ := s.diffs
  refine ⟨ne_of ed s.ins (by intro z; cases z), ne_of s.tab s.ins (by intro z; cases z), fun r hr e => ?_⟩
  obtain ⟨i, hi, g⟩ := List.getElem_of_mem hr
  have hi' : i < M.length := by
    have := s.len
    omega
  obtain ⟨cs, ec, _⟩ := s.rows i _ _ (List.getElem?_eq_getElem hi) (List.getElem?_eq_getElem hi')
  rw [g, e, s.ins] at ec
  cases ec
end
def POW : List Int := [1, 2, 4, 8, 16, 32, 64, 128, 256, 512, 1024, 2048]
theorem pow_at {j : Nat} (h : j < 12) : ∃ p, POW[j]? = some p ∧ 0 < p ∧ p ≤ 2048 := by
  have : ∀ j, j < 12 → 0 < POW.getD j 0 ∧ POW.getD j 0 ≤ 2048 := by decide +kernel
  exact ⟨POW.getD j 0, by rw [List.getD_eq_getElem?_getD, List.getElem?_eq_getElem (by exact h)]; rfl, this j h⟩
section
variable {P : Program} {w : World} {K : PySem.W.Frag} {mg : Str → Option Value} {base : Heap}
theorem ok_law (T : Tx K mg) {f : Addr} {fd : FuncData} (F : FunD K "law" "law" (defArgs s_law) (defBody s_law) (defScope s_law) [] [] f fd) : WG.FnG P w K mg base 8 f fd ["script"] (spLaw K) := by
  refine WG.fnG (N := n_law) fd F sc_law (fun vs H Q E h => ?_) (fun f cdv A outer s H vs Q E hr hq h => ?_)
  · obtain ⟨a, ns, rfl, _⟩ := h
    rfl
  · obtain ⟨a0, zs, rfl, hS, hl, q⟩ := h
    refine ⟨_, (pss_cons (ps_asg (C8.pe_c (k_law_draws T) hr (by first | decide | omega) (by rfl) (pa_cons (pv 0) (pa_cons pe_int (pa_cons (pe_lst (pa_cons pe_int (pa_cons pe_int (pa_cons pe_int (pa_cons pe_int (pa_cons pe_int (pa_cons pe_int (pa_cons pe_int (pa_cons pe_int (pa_cons pe_int pa_nil)))))))))) pa_nil)))) (pg_name (i := 1) sc_law.nd rfl (Or.inl rfl))) (pss_cons (ps_asg (pe_op op_add3 pe_int (pe_ix (ix_seq : IxR _ (rIx K)) (pv 1) pe_int (fun _ _ => rfl))) (pg_name (i := 2) sc_law.nd rfl (Or.inl rfl))) (C8.pss_cut (ps_if (pt_cmpR (op_eq2 hr.units : OpR _ _ (rEq2 K)) (pe_ix (ix_seq : IxR _ (rIx K)) (pv 1) pe_int (fun _ _ => rfl)) pe_int (nomark _)) (pss_one (ps_asg (pe_op op_add3 (pv 2) pe_int) (pg_name (i := 2) sc_law.nd rfl (Or.inl rfl)))) pss_nil) (pss_cons (ps_asg (C8.pe_c (k_law_ranges T) hr (by first | decide | omega) (by rfl) (pa_cons (pv 0) (pa_cons (pv 2) pa_nil))) (pg_name (i := 3) sc_law.nd rfl (Or.inr rfl))) (pss_cons (ps_asg (pe_lst pa_nil) (pg_name (i := 4) sc_law.nd rfl (Or.inl rfl))) (C8.pss_cut (ps_if (pt_cmpR (op_eq2 hr.units : OpR _ _ (rEq2 K)) (pe_ix (ix_seq : IxR _ (rIx K)) (pv 1) pe_int (fun _ _ => rfl)) pe_int (nomark _)) (pss_cons (ps_asg (pe_lc (own := [("k", 5)]) (g := gName 5) (tt := tYes) (by rfl) sc_law.nd (pi_range1 (by rfl) T.z_range (pa_cons (pv 2) pa_nil)) (blkOk_by (own := [("k", 5)]) (N := n_law) (sc := defScope s_law) (by decide +kernel)) (fun _ _ _ _ _ => pg_name (i := 5) sc_law.nd rfl (Or.inl rfl)) (fun _ _ _ _ _ => pts_nil) (fun _ _ _ _ _ => (pe_tup (pa_cons (pe_ix (ix_seq : IxR _ (rIx K)) (pe_ix (ix_seq : IxR _ (rIx K)) (pv 3) pe_int (fun _ _ => rfl)) pe_int (fun _ _ => rfl)) (pa_cons (pe_op op_add3 (pe_ix (ix_seq : IxR _ (rIx K)) (pe_ix (ix_seq : IxR _ (rIx K)) (pv 3) pe_int (fun _ _ => rfl)) pe_int (fun _ _ => rfl)) pe_int) pa_nil))))) (pg_name (i := 3) sc_law.nd rfl (Or.inr rfl))) (pss_one (ps_asg (pe_revL (pe_lc (own := [("k", 5)]) (g := gName 5) (tt := tYes) (by rfl) sc_law.nd (pi_range2 (by rfl) T.z_range (pa_cons pe_int (pa_cons (pv 2) pa_nil))) (blkOk_by (own := [("k", 5)]) (N := n_law) (sc := defScope s_law) (by decide +kernel)) (fun _ _ _ _ _ => pg_name (i := 5) sc_law.nd rfl (Or.inl rfl)) (fun _ _ _ _ _ => pts_nil) (fun _ _ _ _ _ => (pe_tup (pa_cons (pv 5) (pa_cons (pe_op op_add3 (pv 5) pe_int) (pa_cons (pe_un un_neg pe_int) pa_nil)))))) : PE _ _ (tRevL K _)) (pg_name (i := 4) sc_law.nd rfl (Or.inl rfl))))) pss_nil) (pss_cons (ps_asg (pe_lst pa_nil) (pg_name (i := 6) sc_law.nd rfl (Or.inl rfl))) (C8.pss_cut (ps_if (pt_cmpR (op_eq2 hr.units : OpR _ _ (rEq2 K)) (pe_ix (ix_seq : IxR _ (rIx K)) (pv 1) pe_int (fun _ _ => rfl)) pe_int (nomark _)) (pss_cons (ps_asg (C8.pe_c (k_law_draws T) hr (by first | decide | omega) (by rfl) (pa_cons (pv 0) (pa_cons pe_int (pa_cons (pe_lc (own := [("k", 5)]) (g := gName 5) (tt := tYes) (by rfl) sc_law.nd (pi_range1 (by rfl) T.z_range (pa_cons (pv 2) pa_nil)) (blkOk_by (own := [("k", 5)]) (N := n_law) (sc := defScope s_law) (by decide +kernel)) (fun _ _ _ _ _ => pg_name (i := 5) sc_law.nd rfl (Or.inl rfl)) (fun _ _ _ _ _ => pts_nil) (fun _ _ _ _ _ => (pe_op op_pow pe_int pe_int))) pa_nil)))) (pg_name (i := 7) sc_law.nd rfl (Or.inr rfl))) (pss_one (ps_setLc (i := 6) (own := [("k", 5)]) (g := gName 5) (tt := tYes) (by rfl) sc_law.nd rfl rfl (sw_true rfl rfl rfl (by decide +kernel)) (pi_range1 (by rfl) T.z_range (pa_cons (pv 2) pa_nil)) (blkOk_by (own := [("k", 5)]) (N := n_law) (sc := defScope s_law) (by decide +kernel)) (fun _ _ _ _ _ => pg_name (i := 5) sc_law.nd rfl (Or.inl rfl)) (fun _ _ _ _ _ => pts_nil) (fun _ _ _ _ _ => (pe_op op_add3 (pe_ix (ix_seq : IxR _ (rIx K)) (pe_ix (ix_seq : IxR _ (rIx K)) (pv 3) (pv 5) (fun _ _ => rfl)) pe_int (fun _ _ => rfl)) (pe_op op_mod (pe_callTy call_int2 (by rfl) T.z_int (by decide +kernel) (pa_cons (pe_ix (ix_seq : IxR _ (rIx K)) (pv 7) (pv 5) (fun _ _ => rfl)) pa_nil)) (pe_op op_add3 (pe_op op_sub (pe_ix (ix_seq : IxR _ (rIx K)) (pe_ix (ix_seq : IxR _ (rIx K)) (pv 3) (pv 5) (fun _ _ => rfl)) pe_int (fun _ _ => rfl)) (pe_ix (ix_seq : IxR _ (rIx K)) (pe_ix (ix_seq : IxR _ (rIx K)) (pv 3) (pv 5) (fun _ _ => rfl)) pe_int (fun _ _ => rfl))) pe_int))))))) pss_nil) (pss_cons (ps_asg (pe_lst pa_nil) (pg_name (i := 8) sc_law.nd rfl (Or.inl rfl))) (pss_cons (ps_asg (pe_lst (pa_cons pe_int (pa_cons pe_int (pa_cons pe_int (pa_cons pe_int (pa_cons pe_int (pa_cons pe_int (pa_cons pe_int (pa_cons pe_int (pa_cons pe_int (pa_cons pe_int (pa_cons pe_int (pa_cons pe_int pa_nil))))))))))))) (pg_name (i := 9) sc_law.nd rfl (Or.inl rfl))) (pss_cons (ps_for PassesOwn.never rfl (pi_range1 (by rfl) T.z_range (pa_cons (pv 2) pa_nil)) (pg_name (i := 5) sc_law.nd rfl (Or.inl rfl)) (pss_cons (ps_expr (pe_bm PySem.F.plainAttrs_list PySem.F.slot_list_append PySem.F.type_list_append mt_append (pv 8) (pa_cons (pe_tup (pa_cons (pe_op op_add3 (pv 5) pe_int) (pa_cons pe_int (pa_cons (pe_ix (ix_seq : IxR _ (rIx K)) (pe_ix (ix_seq : IxR _ (rIx K)) (pv 3) (pv 5) (fun _ _ => rfl)) pe_int (fun _ _ => rfl)) pa_nil)))) pa_nil) : PE _ _ (tBM K _ _ _ _))) (pss_one (ps_if (PW.pt (pw_or (pt_cmpR op_gt (pe_ix (ix_seq : IxR _ (rIx K)) (pv 1) pe_int (fun _ _ => rfl)) pe_int (nomark _)) (pw_or1 (pt_cmpR (op_eq2 hr.units : OpR _ _ (rEq2 K)) (pe_op op_mod (pe_callTy call_int2 (by rfl) T.z_int (by decide +kernel) (pa_cons (pe_op op_fdivW (pe_ix (ix_seq : IxR _ (rIx K)) (pv 1) pe_int (fun _ _ => rfl)) (pe_ix (ix_seq : IxR _ (rIx K)) (pv 9) (pv 5) (fun _ _ => rfl))) pa_nil)) pe_int) pe_int (nomark _))))) (pss_one (ps_expr (pe_bm PySem.F.plainAttrs_list PySem.F.slot_list_append PySem.F.type_list_append mt_append (pv 8) (pa_cons (pe_tup (pa_cons pe_int (pa_cons (pe_op op_add3 (pv 5) pe_int) (pa_cons (pe_un un_neg (pe_ix (ix_seq : IxR _ (rIx K)) (pe_ix (ix_seq : IxR _ (rIx K)) (pv 3) (pv 5) (fun _ _ => rfl)) pe_int (fun _ _ => rfl))) pa_nil)))) pa_nil) : PE _ _ (tBM K _ _ _ _)))) pss_nil)))) (C8.pss_cut (ps_if (pt_cmpR (op_eq2 hr.units : OpR _ _ (rEq2 K)) (pe_ix (ix_seq : IxR _ (rIx K)) (pv 1) pe_int (fun _ _ => rfl)) pe_int (nomark _)) (pss_one (ps_asg (pe_op op_add3 (pv 8) (pv 4)) (pg_name (i := 8) sc_law.nd rfl (Or.inl rfl)))) pss_nil) (pss_cons (ps_asg (pe_op op_add3 (pv 8) (C8.pe_c (k_law_more T) hr (by first | decide | omega) (by rfl) (pa_cons (pv 0) (pa_cons pe_int (pa_cons (pe_ix (ix_seq : IxR _ (rIx K)) (pv 1) pe_int (fun _ _ => rfl)) (pa_cons (pv 2) (pa_cons (pv 3) (pa_cons (pv 6) pa_nil)))))))) (pg_name (i := 8) sc_law.nd rfl (Or.inl rfl))) (pss_cons (ps_asg (C8.pe_mk (k_System___init (K := K) T) hr (by first | decide | omega) (by rfl) (pa_cons (pv 2) pa_nil)) (pg_name (i := 10) sc_law.nd rfl (Or.inl rfl))) (pss_cons (ps_asg (pe_lst pa_nil) (pg_name (i := 11) sc_law.nd rfl (Or.inl rfl))) (pss_cons (ps_if (pt_not (pt_tr (WG.pe_cG (k_law_fits T) hr (by first | decide | omega) hq (by rfl) (pa_cons (pv 10) (pa_cons (pv 11) (pa_cons (pv 2) pa_nil)))) : PT _ _ (tTr K _))) (pss_one (ps_ret pe_bl)) pss_nil) (pss_cons (ps_asg (WG.pe_cG (k_law_goes T) hr (by first | decide | omega) hq (by rfl) (pa_cons (pv 10) (pa_cons (pv 11) (pa_cons (pv 8) (pa_cons (pv 2) pa_nil))))) (pg_name (i := 12) sc_law.nd rfl (Or.inl rfl))) (pss_cons (ps_if (pt_cmpR op_gt (pe_callB (call_len2 : CallR _ _ (rLn K)) (by rfl) T.z_len (by decide +kernel) (pa_cons (pv 12) pa_nil)) pe_int (nomark _)) (pss_one (ps_ret (pe_ix (ix_seq : IxR _ (rIx K)) (pv 12) pe_int (fun _ _ => rfl)))) pss_nil) (pss_cons (ps_asg (C8.pe_mt0 (k_System_twin (K := K) T) hr (by first | decide | omega) (pv 10)) (pg_name (i := 13) sc_law.nd rfl (Or.inl rfl))) (pss_cons (ps_asg (pe_callTy (call_lst : CallR _ _ (rLst K)) (by rfl) T.z_list (by decide +kernel) (pa_cons (pv 11) pa_nil)) (pg_name (i := 14) sc_law.nd rfl (Or.inl rfl))) (pss_cons (ps_asg (WG.pe_cG (k_law_goes T) hr (by first | decide | omega) hq (by rfl) (pa_cons (pv 10) (pa_cons (pv 11) (pa_cons (C8.pe_c (k_law_more T) hr (by first | decide | omega) (by rfl) (pa_cons (pv 0) (pa_cons pe_int (pa_cons (pe_ix (ix_seq : IxR _ (rIx K)) (pv 1) pe_int (fun _ _ => rfl)) (pa_cons (pv 2) (pa_cons (pv 3) (pa_cons (pv 6) pa_nil))))))) (pa_cons (pv 2) pa_nil))))) (pg_name (i := 12) sc_law.nd rfl (Or.inl rfl))) (C8.pss_cut (ps_if (pt_cmpR op_gt (pe_callB (call_len2 : CallR _ _ (rLn K)) (by rfl) T.z_len (by decide +kernel) (pa_cons (pv 12) pa_nil)) pe_int (nomark _)) (pss_one (ps_if (pt_not (pt_tr (pe_ix (ix_seq : IxR _ (rIx K)) (pv 12) pe_int (fun _ _ => rfl)) : PT _ _ (tTr K _))) (pss_one (ps_ret pe_bl)) pss_nil)) (pss_one (ps_if (pt_not (pt_tr (WG.pe_cG (k_law_fits T) hr (by first | decide | omega) hq (by rfl) (pa_cons (pv 10) (pa_cons (pv 11) (pa_cons (pv 2) pa_nil)))) : PT _ _ (tTr K _))) (pss_one (ps_ret pe_bl)) pss_nil))) (pss_cons (ps_if (pt_not (pt_tr (WG.pe_cG (k_law_fits T) hr (by first | decide | omega) hq (by rfl) (pa_cons (pv 13) (pa_cons (pv 14) (pa_cons (pv 2) pa_nil)))) : PT _ _ (tTr K _))) (pss_one (ps_ret pe_bl)) pss_nil) (pss_cons (ps_asg (pe_cmpR op_gt (pe_callB (call_len2 : CallR _ _ (rLn K)) (by rfl) T.z_len (by decide +kernel) (pa_cons (pv 12) pa_nil)) pe_int (nomark _)) (pg_name (i := 15) sc_law.nd rfl (Or.inl rfl))) (pss_cons (ps_asg (WG.pe_cG (k_law_goes T) hr (by first | decide | omega) hq (by rfl) (pa_cons (pv 13) (pa_cons (pv 14) (pa_cons (C8.pe_c (k_law_more T) hr (by first | decide | omega) (by rfl) (pa_cons (pv 0) (pa_cons pe_int (pa_cons (pe_ix (ix_seq : IxR _ (rIx K)) (pv 1) pe_int (fun _ _ => rfl)) (pa_cons (pv 2) (pa_cons (pv 3) (pa_cons (pv 6) pa_nil))))))) (pa_cons (pv 2) pa_nil))))) (pg_name (i := 12) sc_law.nd rfl (Or.inl rfl))) (C8.pss_cut (ps_if (pt_cmpR op_gt (pe_callB (call_len2 : CallR _ _ (rLn K)) (by rfl) T.z_len (by decide +kernel) (pa_cons (pv 12) pa_nil)) pe_int (nomark _)) (pss_one (ps_if (pt_not (pt_tr (pe_ix (ix_seq : IxR _ (rIx K)) (pv 12) pe_int (fun _ _ => rfl)) : PT _ _ (tTr K _))) (pss_one (ps_ret pe_bl)) pss_nil)) (pss_one (ps_if (pt_not (pt_tr (WG.pe_cG (k_law_fits T) hr (by first | decide | omega) hq (by rfl) (pa_cons (pv 13) (pa_cons (pv 14) (pa_cons (pv 2) pa_nil)))) : PT _ _ (tTr K _))) (pss_one (ps_ret pe_bl)) pss_nil))) (pss_one (ps_ret (pe_or (pv 15) (pe_one (WG.pe_cG (k_law_fits T) hr (by first | decide | omega) hq (by rfl) (pa_cons (pv 10) (pa_cons (pv 11) (pa_cons (pv 2) pa_nil)))))))))))))))))))))))))))))))))), ?_⟩
    have cl := T.c_System
    walk_at "xx"
    rename_i lp H0 n0 s0' e0
    refine ⟨a0, _, zs, [4, 6, 2, 9, 9, 5, 4096, 8, 8], 0, rfl, by walk_at "sq", by walk_at "sq", szOk_of (by decide +kernel), fun p H1 ds s1 np e1 hd => ?_⟩
    obtain ⟨d0, _, rfl, l0, u0, hd⟩ := hd.inv
    obtain ⟨d1, _, rfl, l1, u1, hd⟩ := hd.inv
    obtain ⟨d2, _, rfl, l2, u2, hd⟩ := hd.inv
    obtain ⟨d3, _, rfl, l3, u3, hd⟩ := hd.inv
    obtain ⟨d4, _, rfl, l4, u4, hd⟩ := hd.inv
    obtain ⟨d5, _, rfl, l5, u5, hd⟩ := hd.inv
    obtain ⟨d6, _, rfl, l6, u6, hd⟩ := hd.inv
    obtain ⟨d7, _, rfl, l7, u7, hd⟩ := hd.inv
    obtain ⟨d8, _, rfl, l8, u8, hd⟩ := hd.inv
    obtain rfl := hd.nil_inv
    clear hd
    have e1 : H1 p = some (.lst [.int d0, .int d1, .int d2, .int d3, .int d4, .int d5, .int d6, .int d7, .int d8]) := e1
    have hS1 : SqL K H1 a0 (zs.map V.int) := by walk_at "sq"
    obtain ⟨d3, rfl⟩ : ∃ m : Nat, d3 = m := ⟨d3.toNat, by omega⟩
    obtain ⟨d4, rfl⟩ : ∃ m : Nat, d4 = m := ⟨d4.toNat, by omega⟩
    obtain ⟨d5, rfl⟩ : ∃ m : Nat, d5 = m := ⟨d5.toNat, by omega⟩
    clear s1 s0' e0 n0
    walk_at "xx"
    obtain ⟨m0, hM⟩ : ∃ m : Nat, 1 + d1 = m := ⟨(1 + d1).toNat, by omega⟩
    rw [hM]
    walk_at "xx"
    refine s_cut (fun σ H' => ∃ n : Nat, σ = [some (.ref a0), some (.ref p), some (.int n), none, none, none, none, none, none, none, none, none, none, none, none, none] ∧ H1 = H' ∧ 1 ≤ n ∧ n ≤ 12) ?_ (fun σ H2 p2 => ?_)
    · walk_at "xx"
      refine iteI (fun e => ?_) (fun e => ?_)
      · walk_at "xx"
        exact ⟨m0 + 6, rfl, rfl, by omega, by omega⟩
      · walk_at "xx"
        exact ⟨m0, rfl, rfl, by omega, by omega⟩
    obtain ⟨n, rfl, rfl, hn1, hn⟩ := p2
    walk_at "xx"
    refine ⟨a0, zs, n, rfl, hS1, by omega, fun rp ur H2 rg s2 n2 e2 t2 lrg brg => ?_⟩
    have ep := s2 _ _ e1
    have hS2 := s2.seq hS1
    walk_at "xx"
    rename_i pp H3 n3 s3 e3
    refine s_cut (fun σ H' => ∃ (rp pp : Addr) (ur up : List V) (rg : List (Int × Int)) (pd : List Df), σ = [some (.ref a0), some (.ref p), some (.int n), some (.ref rp), some (.ref pp), none, none, none, none, none, none, none, none, none, none, none] ∧ Same H2 H' ∧ H' rp = some (.lst ur) ∧ TpAll H' ur (rg.map rgD) ∧ rg.length = n ∧ (∀ r ∈ rg, Bd 42 r.1 ∧ Bd 42 r.2 ∧ r.1 ≤ r.2) ∧ H' pp = some (.lst up) ∧ TpAll H' up (pd.map dfD) ∧ pd.length ≤ 12 ∧ ∀ d ∈ pd, InR n d ∧ Bd 43 d.2.2) ?_ (fun σ H4 p4 => ?_)
    · have ep3 := s3 _ _ ep
      walk_at "xx"
      refine iteI (fun e => ?_) (fun e => ?_)
      · walk_at "xx"
        obtain ⟨r0, gr0⟩ : ∃ r0, rg[0]? = some r0 := ⟨rg[0], List.getElem?_eq_getElem (by omega)⟩
        obtain ⟨b1, b2, b3⟩ := brg r0 (List.mem_of_getElem? gr0)
        obtain ⟨y0, gy0, ty0⟩ := tpAt t2 gr0
        obtain ⟨p1, _, _, rfl, ep1, t1, t1'⟩ := WQ.tp2 (show Tp H2 y0 (.tuple [.int r0.1, .int r0.2]) from ty0)
        cases t1
        cases t1'
        refine c_tps (fun _ => rgD (r0.1, r0.1 + 1000)) (fun j H5 N hj s5 hN => ?_) (by omega) (fun _ => rfl) fun D H5 us nD s5 e5 t5 => ?_
        · have S5 := s3.trans s5
          have ep5 := S5 _ _ ep1
          walk_at "xx"
          refine o_ixL (lst_of (S5 _ _ e2)) (atI_of (j := 0) rfl gy0) ?_
          walk_at "xx"
          refine o_ixL (lst_of (S5 _ _ e2)) (atI_of (j := 0) rfl gy0) ?_
          walk_at "xx"
          rename_i q1 H6 n6 s6 e6
          exact hN _ _ s6 (.tup e6 (by walk_at "tp"))
        walk_at "xx"
        refine k_r2 (by omega) ?_
        refine c_tps (fun j => dfD ((1 : Int) + j, (1 : Int) + j + 1, -1)) (fun j H6 N hj s6 hN => ?_) (by omega) (fun _ => rfl) fun D2 H6 us2 nD2 s6 e6 t6 => ?_
        · walk_at "xx"
          rename_i q1 H7 n7 s7 e7
          exact hN _ _ s7 (.tup e7 (by walk_at "tp"))
        walk_at "xx"
        rename_i D3 H7 n7 s7 e7
        have S7 := s3.trans (s5.trans (s6.trans s7))
        refine ⟨D, D3, us, us2.reverse, (List.range n).map fun _ => (r0.1, r0.1 + 1000), ((List.range ((n : Int) - 1).toNat).map fun (j : Nat) => ((1 : Int) + j, (1 : Int) + j + 1, (-1 : Int))).reverse, rfl, S7, (s6.trans s7) _ _ e5, ?_, by simp, fun r hr => ?_, e7, ?_, by simp; omega, fun d hd => ?_⟩
        · rw [List.map_map]
          rw [Int.toNat_natCast] at t5
          exact t5.tk (s6.trans s7).tk
        · obtain ⟨_, _, rfl⟩ := List.mem_map.mp hr
          rw [Bd.iff] at b1
          refine ⟨?_, ?_, ?_⟩
          · show Bd 42 r0.1
            rw [Bd.iff]
            omega
          · show Bd 42 (r0.1 + 1000)
            rw [Bd.iff]
            omega
          · show r0.1 ≤ r0.1 + 1000
            omega
        · rw [List.map_reverse, List.map_map]
          exact tpRev (t6.tk s7.tk)
        · obtain ⟨j, hj, rfl⟩ := List.mem_map.mp (List.mem_reverse.mp hd)
          have := List.mem_range.mp hj
          refine ⟨⟨?_, ?_, ?_, ?_⟩, ?_⟩
          · show (0 : Int) ≤ 1 + j
            omega
          · show (1 : Int) + j ≤ n
            omega
          · show (0 : Int) ≤ 1 + j + 1
            omega
          · show (1 : Int) + j + 1 ≤ n
            omega
          · show Bd 43 (-1)
            unfold Bd
            decide +kernel
      · walk_at "xx"
        exact ⟨rp, pp, ur, [], rg, [], rfl, s3, s3 _ _ e2, t2.tk s3.tk, lrg, fun r hr => ⟨bd_mono (brg r hr).1 (by decide), bd_mono (brg r hr).2.1 (by decide), (brg r hr).2.2⟩, e3, .nil, Nat.zero_le _, fun _ h => by cases h⟩
    clear e3 n3 s3 e2 t2 lrg brg n2 ur rg
    obtain ⟨rp, pp, ur, up, rg, pd, rfl, s4, eR, tR, lrg, brg, eP, tP, lpd, bpd⟩ := p4
    have ep := s4 _ _ ep
    have hS4 := s4.seq hS2
    clear s4 hS2 s2 hS1 e1
    have lur := tR.length
    rw [List.length_map] at lur
    walk_at "xx"
    rename_i vp H5 n5 s5 e5
    refine s_cut (fun σ H' => ∃ (z7 : Option V) (vp : Addr) (vals : List Int), σ = [some (.ref a0), some (.ref p), some (.int n), some (.ref rp), some (.ref pp), none, some (.ref vp), z7, none, none, none, none, none, none, none, none] ∧ Same H4 H' ∧ H' vp = some (.lst (vals.map V.int)) ∧ (vals = [] ∨ vals.length = n) ∧ ∀ v ∈ vals, Bd 42 v) ?_ (fun σ H6 p6 => ?_)
    · have ep5 := s5 _ _ ep
      walk_at "xx"
      refine iteI (fun e => ?_) (fun e => ?_)
      · walk_at "xx"
        refine c_constI (c := 10 ^ 42) (fun _ _ _ h => ?_) (by omega) (fun _ => rfl) fun D H6 nD s6 e6 => ?_
        · walk_at "xx"
          exact h
        walk_at "xx"
        refine ⟨a0, D, zs, _, 2, rfl, (s5.trans s6).seq hS4, lst_of e6, ⟨by rw [List.length_replicate]; omega, fun s hs => by rw [(List.mem_replicate.mp hs).2]; decide +kernel⟩, fun ip H7 ir s7 n7 e7 hi => ?_⟩
        have li := hi.len
        rw [List.length_replicate, Int.toNat_natCast] at li
        have S7 := s5.trans (s6.trans s7)
        walk_at "xx"
        refine c_accR (One fun _ y _ => ∃ v : Int, y = .int v ∧ Bd 42 v) (fun _ _ _ _ _ h => h) (fun i acc H hi h => small1000' (by rw [h.1]; omega)) One.zero (fun j H8 acc N M' hj s8 o hN hM' => ?_) (fun D2 H8 ys nD2 s8 e8 o => ?_)
        · rw [Int.zero_add]
          have hj : j < n := by omega
          obtain ⟨r, gr⟩ : ∃ r, rg[j]? = some r := ⟨rg[j], List.getElem?_eq_getElem (by omega)⟩
          obtain ⟨b1, b2, b3⟩ := brg r (List.mem_of_getElem? gr)
          obtain ⟨y, gy, ty⟩ := tpAt tR gr
          obtain ⟨q1, _, _, rfl, eq1, t1, t1'⟩ := WQ.tp2 (show Tp H4 y (.tuple [.int r.1, .int r.2]) from ty)
          cases t1
          cases t1'
          have S8 := S7.trans s8
          have eq8 := S8 _ _ eq1
          have ix : ∀ {N : VK}, N (.ref q1) H8 → rIx K (.ref rp) (.int j) H8 N := fun h => o_ixL (lst_of (S8 _ _ eR)) (atI_nat gy) h
          walk_at "xx"
          refine ⟨rfl, ?_⟩
          walk_at "xx"
          refine ix ?_
          walk_at "xx"
          refine ix_int (lst_of (s8 _ _ e7)) (by omega) (by omega) fun w1 gw1 => ?_
          walk_at "xx"
          refine ix ?_
          walk_at "xx"
          refine ix ?_
          walk_at "xx"
          have m1 := Int.emod_nonneg w1 (show r.2 - r.1 + 1 ≠ 0 by omega)
          have m2 := Int.emod_lt_of_pos w1 (show 0 < r.2 - r.1 + 1 by omega)
          refine hN _ _ (Same.refl _) (o.snoc (fun _ _ h => h) ⟨_, rfl, ?_⟩)
          generalize w1 % (r.2 - r.1 + 1) = w2 at *
          rw [Bd.iff] at b1 b2 ⊢
          omega
        · obtain ⟨vals, rfl, lv, hv⟩ := One.intsP o fun _ _ _ h => h
          walk_at "xx"
          exact ⟨_, D2, vals, rfl, S7.trans s8, e8, .inr (by omega), hv⟩
      · walk_at "xx"
        exact ⟨_, vp, [], rfl, s5, e5, .inl rfl, fun _ h => by cases h⟩
    clear e5 n5 s5 vp
    obtain ⟨z7, vp, vals, rfl, s6, eV, lvv, hvv⟩ := p6
    have ep := s6 _ _ ep
    have hS6 := s6.seq hS4
    have eR := s6 _ _ eR
    have tR := tR.tk s6.tk
    have eP := s6 _ _ eP
    have tP := tP.tk s6.tk
    clear s6 hS4
    walk_at "xx"
    rename_i bp H7 n7 s7 e7 wp H8 n8 s8 e8
    have e8 : H8 wp = some (.lst (POW.map V.int)) := e8
    have e7x := e7
    have eR6 := eR
    have eP6 := eP
    have eV6 := eV
    have hS6' := hS6
    have e7 := s8 _ _ e7
    have S8 := s7.trans s8
    have ep := S8 _ _ ep
    have hS8 := S8.seq hS6
    have eR := S8 _ _ eR
    have tR := tR.tk S8.tk
    have eP := S8 _ _ eP
    have tP := tP.tk S8.tk
    have eV := S8 _ _ eV
    have nb : H6 bp = none := n7
    clear s7 s8
    have pbp : p ≠ bp := fun e => by rw [e] at ep; rw [ep] at e7; cases e7
    have wbp : wp ≠ bp := (ne_of_none e7x n8).symm
    have rbp : rp ≠ bp := ne_of_none eR6 nb
    refine f_range (fun i σ H' => ∃ z5 ub, ∃ bd : List Df, σ = [some (.ref a0), some (.ref p), some (.int n), some (.ref rp), some (.ref pp), z5, some (.ref vp), z7, some (.ref bp), some (.ref wp), none, none, none, none, none, none] ∧ Same H6 H' ∧ KeepBut [bp] H8 H' ∧ H' bp = some (.lst ub) ∧ TpAll H' ub (bd.map dfD) ∧ bd.length ≤ 2 * i ∧ ∀ d ∈ bd, InR n d ∧ Bd 43 d.2.2)
      ⟨_, _, [], rfl, S8, KeepBut.refl, e7, .nil, Nat.zero_le _, fun _ h => by cases h⟩ (fun i σ H9 hi p => ?_) (fun σ H9 p => ?_)
    · obtain ⟨z5, ub, bd, rfl, s9, k9, e9, t9, l9, b9⟩ := p
      have hi : i < n := by omega
      have lub := t9.length
      rw [List.length_map] at lub
      obtain ⟨r, gr⟩ : ∃ r, rg[i]? = some r := ⟨rg[i], List.getElem?_eq_getElem (by omega)⟩
      obtain ⟨c1, c2, c3⟩ := brg r (List.mem_of_getElem? gr)
      obtain ⟨y, gy, ty⟩ := tpAt tR gr
      obtain ⟨q1, _, _, rfl, eq1, u1, u1'⟩ := WQ.tp2 (show Tp H8 y (.tuple [.int r.1, .int r.2]) from ty)
      cases u1
      cases u1'
      have qbp : q1 ≠ bp := fun e => by rw [e, e7] at eq1; cases eq1
      have nm : ∀ {c}, c ≠ bp → c ∉ [bp] := fun h => by simp only [List.mem_singleton]; exact h
      have eq9 := k9 _ _ (nm qbp) eq1
      have er9 := k9 _ _ (nm rbp) eR
      have ep9 := k9 _ _ (nm pbp) ep
      have ew9 := k9 _ _ (nm wbp) e8
      rw [Int.zero_add]
      walk_at "xx"
      refine m_ty (lst_of e9) ?_
      walk_at "xx"
      refine o_ixL (lst_of er9) (atI_nat gy) ?_
      walk_at "xx"
      rename_i t10 H10 n10 s10 e10
      refine m_app (s10 _ _ e9) (small1000 (by omega)) fun H11 c11 e11 => ?_
      have k11 : TK H9 H11 := s10.tk.trans (c11.tk (s10 _ _ e9))
      have kb11 : KeepBut [bp] H9 H11 := (Same.but s10).trans (Chg.but c11 (by simp))
      have eq9 := kb11 _ _ (nm qbp) eq9
      have er9 := kb11 _ _ (nm rbp) er9
      have ep9 := kb11 _ _ (nm pbp) ep9
      have ew9 := kb11 _ _ (nm wbp) ew9
      have t11 : TpAll H11 (ub ++ [.ref t10]) ((bd ++ [((i : Int) + 1, (0 : Int), r.2)]).map dfD) := by
        rw [List.map_append]
        exact tpSnoc (t9.tk k11) (Tp.tk (c11.tk (s10 _ _ e9)) (.tup e10 (by walk_at "tp")))
      have s11 : Same H6 H11 := c11.same (s9.trans s10) nb
      have b11 : ∀ d ∈ bd ++ [((i : Int) + 1, (0 : Int), r.2)], InR n d ∧ Bd 43 d.2.2 := fun d hd => by
        rcases List.mem_append.mp hd with hd | hd
        · exact b9 d hd
        · rw [List.mem_singleton.mp hd]
          exact ⟨⟨by show (0 : Int) ≤ (i : Int) + 1; omega, by show (i : Int) + 1 ≤ n; omega, by show (0 : Int) ≤ 0; omega, by show (0 : Int) ≤ n; omega⟩, bd_mono c2 (by decide)⟩
      have kb9 := k9.trans kb11
      clear k11 s10 e10 n10 c11 t9 s9 k9 kb11 e9
      have fin1 : ∀ z5, ∃ z5' ub' bd', ([some (.ref a0), some (.ref p), some (.int n), some (.ref rp), some (.ref pp), z5, some (.ref vp), z7, some (.ref bp), some (.ref wp), none, none, none, none, none, none] : L2.St) = [some (.ref a0), some (.ref p), some (.int n), some (.ref rp), some (.ref pp), z5', some (.ref vp), z7, some (.ref bp), some (.ref wp), none, none, none, none, none, none] ∧ Same H6 H11 ∧ KeepBut [bp] H8 H11 ∧ H11 bp = some (.lst ub') ∧ TpAll H11 ub' ((bd' : List Df).map dfD) ∧ bd'.length ≤ 2 * (i + 1) ∧ ∀ d ∈ bd', InR n d ∧ Bd 43 d.2.2 :=
        fun z5 => ⟨z5, _, _, rfl, s11, kb9, e11, t11, by rw [List.length_append, List.length_singleton]; omega, b11⟩
      have more : ∀ (σ : L2.St) (t12 : Addr) (H12 H13 : Hp), Same H11 H12 → H12 t12 = some (.tup [.int 0, .int ((i : Int) + 1), .int (-r.1)]) → Chg bp H12 H13 → H13 bp = some (.lst (ub ++ [.ref t10] ++ [.ref t12])) → ∃ z5' ub' bd', ([some (.ref a0), some (.ref p), some (.int n), some (.ref rp), some (.ref pp), some (.int i), some (.ref vp), z7, some (.ref bp), some (.ref wp), none, none, none, none, none, none] : L2.St) = [some (.ref a0), some (.ref p), some (.int n), some (.ref rp), some (.ref pp), z5', some (.ref vp), z7, some (.ref bp), some (.ref wp), none, none, none, none, none, none] ∧ Same H6 H13 ∧ KeepBut [bp] H8 H13 ∧ H13 bp = some (.lst ub') ∧ TpAll H13 ub' ((bd' : List Df).map dfD) ∧ bd'.length ≤ 2 * (i + 1) ∧ ∀ d ∈ bd', InR n d ∧ Bd 43 d.2.2 := fun σ t12 H12 H13 s12 e12 c13 e13 => by
        have k13 : TK H11 H13 := s12.tk.trans (c13.tk (s12 _ _ e11))
        refine ⟨_, _, bd ++ [((i : Int) + 1, (0 : Int), r.2)] ++ [((0 : Int), (i : Int) + 1, -r.1)], rfl, c13.same (s11.trans s12) nb, kb9.trans ((Same.but s12).trans (Chg.but c13 (by simp))), e13, ?_, by simp only [List.length_append, List.length_singleton]; omega, fun d hd => ?_⟩
        · rw [List.map_append]
          exact tpSnoc (t11.tk k13) (Tp.tk (c13.tk (s12 _ _ e11)) (.tup e12 (by walk_at "tp")))
        · rcases List.mem_append.mp hd with hd | hd
          · exact b11 d hd
          · rw [List.mem_singleton.mp hd]
            refine ⟨⟨by show (0 : Int) ≤ 0; omega, by show (0 : Int) ≤ n; omega, by show (0 : Int) ≤ (i : Int) + 1; omega, by show (i : Int) + 1 ≤ n; omega⟩, ?_⟩
            show Bd 43 (-r.1)
            rw [Bd.iff] at c1 ⊢
            omega
      obtain ⟨pw, gpw, pw0, pw1⟩ := pow_at (j := i) (by omega)
      walk_at "xx"
      refine iteD (fun e => ?_) (fun e => ?_)
      · walk_at "xx"
        refine m_ty (lst_of e11) ?_
        walk_at "xx"
        refine o_ixL (lst_of er9) (atI_nat gy) ?_
        walk_at "xx"
        rename_i t12 H12 n12 s12 e12
        refine m_app (s12 _ _ e11) (small1000 (by rw [List.length_append, List.length_singleton]; omega)) fun H13 c13 e13 => ?_
        exact more [] t12 H12 H13 s12 e12 c13 e13
      · walk_at "xx"
        refine o_ixL (lst_of ew9) (atI_nat (v := .int pw) (by rw [List.getElem?_map, gpw]; rfl)) ?_
        walk_at "xx"
        refine iteI (fun e => ?_) (fun e => ?_)
        · walk_at "xx"
          refine m_ty (lst_of e11) ?_
          walk_at "xx"
          refine o_ixL (lst_of er9) (atI_nat gy) ?_
          walk_at "xx"
          rename_i t12 H12 n12 s12 e12
          refine m_app (s12 _ _ e11) (small1000 (by rw [List.length_append, List.length_singleton]; omega)) fun H13 c13 e13 => ?_
          exact more [] t12 H12 H13 s12 e12 c13 e13
        · walk_at "xx"
          exact fin1 _
    obtain ⟨z5, ub, bd, rfl, s9, k9, e9, t9, l9, b9⟩ := p
    rw [Int.toNat_natCast] at l9
    have nots : ∀ a ∈ [bp], ∃ o, H8 a = some o ∧ noTup o = true := fun a ha => by
      rw [List.mem_singleton.mp ha]
      exact ⟨_, e7, rfl⟩
    have tk9 : TK H8 H9 := k9.tk nots
    have nm : ∀ {c}, c ≠ bp → c ∉ [bp] := fun h => by simp only [List.mem_singleton]; exact h
    have ep := k9 _ _ (nm pbp) ep
    have eR := k9 _ _ (nm rbp) eR
    have tR := tR.tk tk9
    have eP := k9 _ _ (nm (ne_of_none eP6 nb)) eP
    have tP := tP.tk tk9
    have eV := k9 _ _ (nm (ne_of_none eV6 nb)) eV
    have hS9 := s9.seq hS6'
    clear k9 tk9 nots nm s9 e7 e7x e8 n8 wbp rbp pbp eR6 eP6 eV6 S8 nb hS8 hS6'
    walk_at "xx"
    have lup := tP.length
    have lub := t9.length
    rw [List.length_map] at lup lub
    refine s_cut (fun σ H' => ∃ (bp : Addr) (ub : List V) (bd : List Df), σ = [some (.ref a0), some (.ref p), some (.int n), some (.ref rp), some (.ref pp), z5, some (.ref vp), z7, some (.ref bp), some (.ref wp), none, none, none, none, none, none] ∧ Same H9 H' ∧ H' bp = some (.lst ub) ∧ TpAll H' ub (bd.map dfD) ∧ bd.length ≤ 36 ∧ ∀ d ∈ bd, InR n d ∧ Bd 43 d.2.2) ?_ (fun σ H10 p10 => ?_)
    · walk_at "xx"
      refine iteI (fun e => ?_) (fun e => ?_)
      · walk_at "xx"
        refine o_addL e9 eP (lz (by omega)) fun b2 H10 n10 s10 e10 => ?_
        walk_at "xx"
        refine ⟨b2, ub ++ up, bd ++ pd, rfl, s10, e10, ?_, by rw [List.length_append]; omega, fun d hd => ?_⟩
        · rw [List.map_append]
          exact tpApp (t9.tk s10.tk) (tP.tk s10.tk)
        · rcases List.mem_append.mp hd with hd | hd
          · exact b9 d hd
          · exact bpd d hd
      · walk_at "xx"
        exact ⟨bp, ub, bd, rfl, Same.refl _, e9, t9, by omega, b9⟩
    clear e9 t9 l9 b9 lub ub bd
    obtain ⟨bp, ub, bd, rfl, s10, eB, tB, lbd, bbd⟩ := p10
    have ep := s10 _ _ ep
    have eR := s10 _ _ eR
    have tR := tR.tk s10.tk
    have eV := s10 _ _ eV
    have hS10 := s10.seq hS9
    clear s10 hS9 eP tP lpd bpd lup
    have hrg : ∀ r ∈ rg, Bd 42 r.1 ∧ Bd 42 r.2 := fun r h => ⟨(brg r h).1, (brg r h).2.1⟩
    walk_at "xx"
    refine ⟨a0, rp, vp, zs, 3, d3, n, ur, rg, vals, rfl, hS10, by omega, by omega, eR, tR, lrg, hrg, eV, lvv, hvv, fun mp um H11 md s11 n11 e11 t11 lmd bmd => ?_⟩
    have lub := tB.length
    rw [List.length_map] at lub
    have lum := t11.length
    rw [List.length_map] at lum
    refine o_addL (s11 _ _ eB) e11 (lz (by omega)) fun gp H12 n12 s12 eG => ?_
    have S12 := s11.trans s12
    have tG : TpAll H12 (ub ++ um) ((bd ++ md).map dfD) := by
      rw [List.map_append]
      exact tpApp (tB.tk S12.tk) (t11.tk s12.tk)
    have bgd : ∀ d ∈ bd ++ md, InR n d ∧ Bd 43 d.2.2 := fun d hd => by
      rcases List.mem_append.mp hd with hd | hd
      · exact bbd d hd
      · exact bmd d hd
    have lgd : (bd ++ md).length ≤ 45 := by rw [List.length_append]; omega
    have ep := S12 _ _ ep
    have eR := S12 _ _ eR
    have tR := tR.tk S12.tk
    have eV := S12 _ _ eV
    have hS12 := S12.seq hS10
    generalize ub ++ um = ug at *
    generalize bd ++ md = gd at *
    clear s11 s12 S12 hS10 n11 n12 e11 t11 lmd bmd eB tB lbd bbd lub lum
    walk_at "xx"
    refine k_make fun x dx H13 nx nd _ s13 e13 _ => ?_
    refine ⟨x, dx, n, rfl, e13, by omega, fun H14 S k14 hs _ nl _ _ => ⟨rfl, ?_⟩⟩
    have S14 : Same H12 H14 := fun b o e => k14 b o (fun h => by rw [List.mem_singleton.mp h, nx] at e; cases e) (s13 _ _ e)
    have nl12 : H12 S.dl = none := s13.free nl
    clear k14 s13 e13 nl nd
    walk_at "xx"
    rename_i dp H15 n15 s15 e15
    have S15 := S14.trans s15
    have nd12 : H12 dp = none := S14.free n15
    obtain ⟨fx, fdl, ftp, frs⟩ := SysAt.fresh hs n15
    have hs15 := hs.same s15
    clear hs s15 S14 n15
    refine ⟨x, dp, S, n, [], [], tab0 n, rfl, hs15, Mean.start n, hn1, hn, e15, .nil, by simp, (fun _ h => by cases h), fun H16 s16 => ?_⟩
    have S16 := S15.trans s16
    have hs16 := hs15.same s16
    have e16 := s16 _ _ e15
    clear hs15 s16 e15 S15
    walk_at "xx"
    refine ⟨x, dp, gp, S, n, [], ug, [], gd, tab0 n, rfl, hs16, Mean.start n, hn1, hn, e16, .nil, S16 _ _ eG, tG.tk S16.tk, by rw [List.length_nil]; omega, (fun _ h => by cases h), bgd, fdl.symm, (fun h => frs _ h rfl), ftp.symm, ne_of_none eG nd12, ne_of_none eG nl12, fun e tp H17 k17 e17 f17 => ?_⟩
    have S17 : Same H12 H17 := fun c o h => k17 c o (by simp only [List.mem_cons, List.not_mem_nil, or_false, not_or]; exact ⟨ne_of_none h nx, ne_of_none h nl12, ne_of_none h nd12⟩) (S16 _ _ h)
    clear k17 S16
    cases e with
    | true =>
      have e17 : H17 tp = some (.lst [.bl true]) := e17
      walk_at "xx"
      refine b_lenL (lst_of e17) ?_
      walk_at "xx"
      exact q _
    | false =>
      have e17 : H17 tp = some (.lst []) := e17
      obtain ⟨S', M', us', hs', hM', edl, etp, ers, eA, tA⟩ := f17 rfl
      rw [List.nil_append] at hs' hM' tA
      have hs' : SysAt K H17 x S' n gd M' := hs'
      have hd : dp ≠ S'.dl ∧ dp ≠ S'.tp ∧ dp ∉ S'.rs := by
        refine ⟨by rw [edl]; exact fdl.symm, ?_, fun hr => ?_⟩
        · rcases etp with h | h
          · rw [h]
            exact ftp.symm
          · exact ne_of_none e16 h
        · rcases ers _ hr with h | h
          · exact frs _ h rfl
          · rw [e16] at h
            cases h
      clear f17 hs16 fdl ftp frs
      have hx17 := hs'.ins
      walk_at "xx"
      refine b_lenL (lst_of e17) ?_
      walk_at "xx"
      refine ⟨x, S', n, gd, M', rfl, hs', by omega, by omega, fun y Sy H18 s18 hy ny nly etpy ersy => ?_⟩
      walk_at "xx"
      refine ls_new (lst_of (s18 _ _ eA)) fun wp2 H19 n19 s19 e19 => ?_
      have S19 := S17.trans (s18.trans s19)
      have ep19 := S19 _ _ ep
      have tA19 := tA.tk (s18.trans s19).tk
      have hs19 := hs'.same (s18.trans s19)
      have hy19 := hy.same s19
      have eA19 := (s18.trans s19) _ _ eA
      have nw18 : H17 wp2 = none := s18.free n19
      have nm : ∀ {c o}, H17 c = some o → c ≠ y ∧ c ≠ Sy.dl ∧ c ≠ wp2 := fun h => ⟨ne_of_none h ny, ne_of_none h nly, ne_of_none h nw18⟩
      have wS := SysAt.fresh hy n19
      have wSx := SysAt.fresh hs' nw18
      have yS := SysAt.fresh hs' ny
      have ySd := SysAt.fresh hs' nly
      have selfy := SysAt.self hs'
      have dpy := (nm eA)
      have gpl := ne_of_none eG nl12
      have L12 : ∀ {c o}, H12 c = some o → c ≠ x ∧ c ≠ S.dl ∧ c ≠ dp ∧ c ≠ y ∧ c ≠ Sy.dl ∧ c ≠ wp2 := fun {c o} h => ⟨ne_of_none h nx, ne_of_none h nl12, ne_of_none h nd12, nm (S17 _ _ h)⟩
      clear s18 s19 hy hs' eA n19 e17
      walk_at "xx"
      refine ⟨a0, rp, vp, zs, 5, d4, n, ur, rg, vals, rfl, S19.seq hS12, by omega, by omega, S19 _ _ eR, tR.tk S19.tk, lrg, hrg, S19 _ _ eV, lvv, hvv, fun mp um H20 md s20 n20 e20 t20 lmd bmd => ?_⟩
      have S20 := S19.trans s20
      have hs20 := hs19.same s20
      have hy20 := hy19.same s20
      have eA20 := s20 _ _ eA19
      have tA20 := tA19.tk s20.tk
      have e19' := s20 _ _ e19
      walk_at "xx"
      refine ⟨x, dp, mp, S', n, us', um, gd, md, M', rfl, hs20, hM', hn1, hn, eA20, tA20, e20, t20, by omega, fun d h => (bgd d h).2, bmd, hd.1, hd.2.2, hd.2.1, (ne_of_none eA19 n20).symm, ?_, fun e2 tp2 H21 k21 e21 f21 => ?_⟩
      · obtain ⟨ud, eud, _⟩ := hs19.diffs
        exact (ne_of_none eud n20).symm
      have tk21 : TK H20 H21 := k21.tk fun c hc => by
        simp only [List.mem_cons, List.not_mem_nil, or_false] at hc
        rcases hc with rfl | rfl | rfl
        · exact ⟨_, hs20.ins, rfl⟩
        · obtain ⟨ud, eud, _⟩ := hs20.diffs
          exact ⟨_, eud, rfl⟩
        · exact ⟨_, eA20, rfl⟩
      have S21 : Same H12 H21 := fun c o h => k21 c o (by
        obtain ⟨h1, h2, h3, _⟩ := L12 h
        simp only [List.mem_cons, List.not_mem_nil, or_false, not_or]
        exact ⟨h1, edl ▸ h2, h3⟩) (S20 _ _ h)
      have hy21 : SysAt K H21 y Sy n gd M' := hy20.keep k21 tk21 (by
        simp only [List.mem_cons, List.not_mem_nil, or_false, not_or]
        exact ⟨yS.1.symm, fun h => yS.2.1 h.symm, dpy.1.symm⟩) (by
        simp only [List.mem_cons, List.not_mem_nil, or_false, not_or]
        exact ⟨ySd.1.symm, fun h => ySd.2.1 h.symm, dpy.2.1.symm⟩) (by
        rw [etpy]
        simp only [List.mem_cons, List.not_mem_nil, or_false, not_or]
        exact ⟨selfy.2.1, fun h => hs20.ap2 h.symm, hd.2.1.symm⟩) (fun r hr => by
        rw [ersy] at hr
        simp only [List.mem_cons, List.not_mem_nil, or_false, not_or]
        exact ⟨selfy.2.2 r hr, fun h => hs20.ap1 (h ▸ hr), fun h => hd.2.2 (h ▸ hr)⟩)
      have e21w : H21 wp2 = some (.lst us') := k21 _ _ (by
        simp only [List.mem_cons, List.not_mem_nil, or_false, not_or]
        exact ⟨wSx.1.symm, wSx.2.1.symm, dpy.2.2.symm⟩) e19'
      have tA21 := tA20.tk tk21
      have lgm : (gd ++ md).length ≤ 80 := by rw [List.length_append]; omega
      have bgm : ∀ d ∈ gd ++ md, Bd 43 d.2.2 := fun d h => by
        rcases List.mem_append.mp h with h | h
        · exact (bgd d h).2
        · exact (bmd d h).2
      have ey20 := hy20.ins
      obtain ⟨udy, edy20, _⟩ := hy20.diffs
      have ew20 := e19'
      clear tk21 k21 S20 s20 hy20 e19' hs19 hy19 eA19 tA19 e19 S19 ep19
      walk_at "xx"
      refine s_cut (fun σ H' => σ = [some (.ref a0), some (.ref p), some (.int n), some (.ref rp), some (.ref pp), z5, some (.ref vp), z7, some (.ref gp), some (.ref wp), some (.ref x), some (.ref dp), some (.ref tp2), some (.ref y), some (.ref wp2), none] ∧ Same H21 H') ?_ (fun σ H22 p22 => ?_)
      · walk_at "xx"
        refine b_lenL (lst_of e21) ?_
        cases e2 with
        | true =>
          have e21 : H21 tp2 = some (.lst [.bl true]) := e21
          walk_at "xx"
          exact ⟨rfl, Same.refl _⟩
        | false =>
          have e21 : H21 tp2 = some (.lst []) := e21
          obtain ⟨S2, M2, us2, hs2, hM2, _, _, _, eA2, tA2⟩ := f21 rfl
          have hs2 : SysAt K H21 x S2 n (gd ++ md) M2 := hs2
          walk_at "xx"
          refine ⟨x, dp, S2, n, us2, gd ++ md, M2, rfl, hs2, hM2, hn1, hn, eA2, tA2, lgm, bgm, fun H22 s22 => ?_⟩
          walk_at "xx"
          exact ⟨rfl, s22⟩
      obtain ⟨rfl, s22⟩ := p22
      have S22 := S21.trans s22
      have hy22 := hy21.same s22
      have e22w := s22 _ _ e21w
      have tA22 := tA21.tk s22.tk
      walk_at "xx"
      refine ⟨y, wp2, Sy, n, us', gd, M', rfl, hy22, hM', hn1, hn, e22w, tA22, by omega, fun d h => (bgd d h).2, fun H23 s23 => ?_⟩
      have S23 := S22.trans s23
      have s21_23 := s22.trans s23
      have hy23 := hy22.same s23
      have e23w := s23 _ _ e22w
      have tA23 := tA22.tk s23.tk
      have et23 := s21_23 _ _ e21
      have ep23 := S23 _ _ ep
      clear S22 hy22 e22w tA22 s22 s23 hy21 tA21 e21w S21
      walk_at "xx"
      refine b_lenL (lst_of et23) ?_
      walk_at "xx"
      refine ⟨a0, rp, vp, zs, 7, d5, n, ur, rg, vals, rfl, S23.seq hS12, by omega, by omega, S23 _ _ eR, tR.tk S23.tk, lrg, hrg, S23 _ _ eV, lvv, hvv, fun mp3 um3 H24 md3 s24 n24 e24 t24 lmd3 bmd3 => ?_⟩
      have hy24 := hy23.same s24
      have e24w := s24 _ _ e23w
      have tA24 := tA23.tk s24.tk
      walk_at "xx"
      refine ⟨y, wp2, mp3, Sy, n, us', um3, gd, md3, M', rfl, hy24, hM', hn1, hn, e24w, tA24, e24, t24, by omega, fun d h => (bgd d h).2, bmd3, wS.2.1.symm, (fun h => wS.2.2.2 _ h rfl), wS.2.2.1.symm, (ne_of_none e23w n24).symm, ?_, fun e3 tp3 H25 k25 e25 f25 => ?_⟩
      · obtain ⟨ud, eud, _⟩ := hy23.diffs
        exact (ne_of_none eud n24).symm
      have tk25 : TK H24 H25 := k25.tk fun c hc => by
        simp only [List.mem_cons, List.not_mem_nil, or_false] at hc
        rcases hc with rfl | rfl | rfl
        · exact ⟨_, hy24.ins, rfl⟩
        · obtain ⟨ud, eud, _⟩ := hy24.diffs
          exact ⟨_, eud, rfl⟩
        · exact ⟨_, e24w, rfl⟩
      have lgm3 : (gd ++ md3).length ≤ 80 := by rw [List.length_append]; omega
      have bgm3 : ∀ d ∈ gd ++ md3, Bd 43 d.2.2 := fun d h => by
        rcases List.mem_append.mp h with h | h
        · exact (bgd d h).2
        · exact (bmd3 d h).2
      have S24 := s21_23.trans s24
      have k21_25 : KeepBut [y, Sy.dl, wp2] H21 H25 := (Same.but S24).trans k25
      have tk21_25 : TK H21 H25 := S24.tk.trans tk25
      clear hy24 e24w tA24 hy23 e23w tA23 s24 S24 k25 tk25
      walk_at "xx"
      refine s_cut (fun σ H' => σ = [some (.ref a0), some (.ref p), some (.int n), some (.ref rp), some (.ref pp), z5, some (.ref vp), z7, some (.ref gp), some (.ref wp), some (.ref x), some (.ref dp), some (.ref tp3), some (.ref y), some (.ref wp2), some (.bl (decide (((tl e2).length : Int) > 0)))] ∧ Same H25 H') ?_ (fun σ H26 p26 => ?_)
      · walk_at "xx"
        refine b_lenL (lst_of e25) ?_
        cases e3 with
        | true =>
          have e25 : H25 tp3 = some (.lst [.bl true]) := e25
          walk_at "xx"
          exact ⟨rfl, Same.refl _⟩
        | false =>
          have e25 : H25 tp3 = some (.lst []) := e25
          obtain ⟨S2, M2, us2, hs2, hM2, _, _, _, eA2, tA2⟩ := f25 rfl
          have hs2 : SysAt K H25 y S2 n (gd ++ md3) M2 := hs2
          walk_at "xx"
          refine ⟨y, wp2, S2, n, us2, gd ++ md3, M2, rfl, hs2, hM2, hn1, hn, eA2, tA2, lgm3, bgm3, fun H22 s22 => ?_⟩
          walk_at "xx"
          exact ⟨rfl, s22⟩
      obtain ⟨rfl, s26⟩ := p26
      walk_at "xx"
      cases e2 with
      | true =>
        walk_at "xx"
        exact q _
      | false =>
        obtain ⟨S2, M2, us2, hs2, hM2, edl2, etp2, ers2, eA2, tA2⟩ := f21 rfl
        have hs2 : SysAt K H21 x S2 n (gd ++ md) M2 := hs2
        have f : ∀ c o, H20 c = some o → c = S2.tp ∨ c ∈ S2.rs → c = S'.tp ∨ c ∈ S'.rs := fun c o h hc => by
          rcases hc with rfl | hc
          · rcases etp2 with h2 | h2
            · exact .inl h2
            · rw [h] at h2
              cases h2
          · rcases ers2 _ hc with h2 | h2
            · exact .inr h2
            · rw [h] at h2
              cases h2
        have three : ∀ c, c = y ∨ c = Sy.dl ∨ c = wp2 → ∃ o, H20 c = some o := fun c hc => by
          rcases hc with rfl | rfl | rfl
          · exact ⟨_, ey20⟩
          · exact ⟨_, edy20⟩
          · exact ⟨_, ew20⟩
        have hs25 : SysAt K H25 x S2 n (gd ++ md) M2 := hs2.keep k21_25 tk21_25 (by
          simp only [List.mem_cons, List.not_mem_nil, or_false, not_or]
          exact ⟨yS.1, ySd.1, wSx.1⟩) (by
          rw [edl2]
          simp only [List.mem_cons, List.not_mem_nil, or_false, not_or]
          exact ⟨yS.2.1, ySd.2.1, wSx.2.1⟩) (by
          simp only [List.mem_cons, List.not_mem_nil, or_false, not_or]
          refine ⟨fun h => ?_, fun h => ?_, fun h => ?_⟩
          · obtain ⟨o, ho⟩ := three y (.inl rfl)
            rcases f y o ho (.inl h.symm) with h | h
            · exact yS.2.2.1 h.symm
            · exact yS.2.2.2 _ h rfl
          · obtain ⟨o, ho⟩ := three Sy.dl (.inr (.inl rfl))
            rcases f Sy.dl o ho (.inl h.symm) with h | h
            · exact ySd.2.2.1 h.symm
            · exact ySd.2.2.2 _ h rfl
          · obtain ⟨o, ho⟩ := three wp2 (.inr (.inr rfl))
            rcases f wp2 o ho (.inl h.symm) with h | h
            · exact wSx.2.2.1 h.symm
            · exact wSx.2.2.2 _ h rfl) (fun r hr => by
          simp only [List.mem_cons, List.not_mem_nil, or_false, not_or]
          refine ⟨fun h => ?_, fun h => ?_, fun h => ?_⟩
          · obtain ⟨o, ho⟩ := three y (.inl rfl)
            rcases f y o ho (.inr (h ▸ hr)) with h | h
            · exact yS.2.2.1 h.symm
            · exact yS.2.2.2 _ h rfl
          · obtain ⟨o, ho⟩ := three Sy.dl (.inr (.inl rfl))
            rcases f Sy.dl o ho (.inr (h ▸ hr)) with h | h
            · exact ySd.2.2.1 h.symm
            · exact ySd.2.2.2 _ h rfl
          · obtain ⟨o, ho⟩ := three wp2 (.inr (.inr rfl))
            rcases f wp2 o ho (.inr (h ▸ hr)) with h | h
            · exact wSx.2.2.1 h.symm
            · exact wSx.2.2.2 _ h rfl)
        have eA25 : H25 dp = some (.lst us2) := k21_25 _ _ (by
          simp only [List.mem_cons, List.not_mem_nil, or_false, not_or]
          exact dpy) eA2
        walk_at "xx"
        refine ⟨x, dp, S2, n, us2, gd ++ md, M2, rfl, hs25.same s26, hM2, hn1, hn, s26 _ _ eA25, (tA2.tk tk21_25).tk s26.tk, lgm, bgm, fun H27 s27 => ?_⟩
        exact q _
end
end K17
open PySem PySem.W PySem.Calls PyProof.Rows
set_option maxHeartbeats 0 in
theorem PySem.Challenge.cw_wayorring_k17_whole_ties_holds : PySem.Challenge.rw_wayorring_k17_whole_ties.Holds := by
  w_on; o_law
  refine HandSHeadRun.head_any (r := OpenLaw.row PySem.Challenge.rw_wayorring_k17_whole_ties) (q := view (OpenLaw.row PySem.Challenge.rw_wayorring_k17_whole_ties).prog [21]) (H := K17.hk) (ob := K17.ob) (M := 20000) (loose := K17.loose) (d := HandSHeadRun.topDef (OpenLaw.row PySem.Challenge.rw_wayorring_k17_whole_ties).prog 21) (kwd := []) K17.ob_eq
    (by kernel_rfl) (fun s => by kernel_rfl) K17.run (by kernel_rfl) (by kernel_rfl) (by kernel_rfl) (by rfl) (by first | assumption | decide +kernel) (by decide +kernel) ⟨rfl, rfl, rfl, rfl, rfl, by decide +kernel⟩ ?hw ?hc
  case hw => w_witness2
  case hc =>
    refine WG.walkG (l := PySem.Challenge.rw_wayorring_k17_whole_ties) (n := 63) (k := 8) (x := "script") rfl (by decide) (by kernel_rfl) ⟨rfl, by decide, by decide⟩ ?F
    intro w mg fa h Y G hmg0
    obtain ⟨K, KX, c⟩ := Y
    have hmg : mg ("law" : PySem.Str) = some (.ref fa) := by
      have e : (HandSHeadRun.topDef (OpenLaw.row PySem.Challenge.rw_wayorring_k17_whole_ties).prog 21).name = ("law" : PySem.Str) := by kernel_rfl
      rw [← e]
      exact hmg0
    have T := K17.tx_of KX G c
    obtain ⟨f, fd, F, e2⟩ := T.d_law.ex
    have e3 := hmg.symm.trans e2
    cases e3
    exact ⟨K, fd, K17.spLaw K, KX, fun s v => L2.FunD.bindsA (ps := ["script"]) F (fun _ _ _ _ _ _ us hl => match us, hl with | [_], _ => rfl) s [v] rfl, fun H a ns hl hS => ⟨a, ns, rfl, hS, hl, fun _ => rfl⟩, fun base => K17.ok_law T F⟩

