import PyProof.Rows.All
import Wide.All
import OpenK.AllK
import Wide.FinOn
import KE.KStateDown
import HandS.ForMost
import HandS.IsInst
import HandS.Codes
import HandS.Exc
import HandS.Defaults
import HandS.Head0
import HandS.Head1
import HandS.Head2
import HandS.HeadEnd
import HandS.HeadHook1
import HandS.HeadHook2
import HandS.HeadHook3
import HandS.HeadHook4
import HandS.FStr
import HandS.Dict
import HandS.More
import Wide.Once
import HandS.Conv
import HandS.Wide
import HandS.Style
import HandS.Star
import HandS.TupAny
import PyProof.ReprRoads
import PyProof.ReprLen
import PyProof.P3Eq
import HandS.Walk
import HandS.Iter
import PySem.Challenge.RW_wayorring_k14_chains
set_option Elab.async false
set_option linter.all false
set_option maxRecDepth 100000
set_option maxHeartbeats 8000000
/-! Wy: rules that take operands of several kinds, and steps. -/
namespace Wy
open PySem PySem.Spec PyProof.Rows L2
section
variable {X : Cx}
theorem CallR.or {f : Value} {r r' : List V → Hp → VK → Prop} (h : CallR X f r) (h' : CallR X f r') : CallR X f (fun xs H Q => r xs H Q ∨ r' xs H Q) := by
  intro pins s σ H xs us Q I rv q
  rcases q with q | q
  · exact h pins s σ H xs us Q I rv q
  · exact h' pins s σ H xs us Q I rv q
/-- k times a text -/
def repS (z : Str) (k : Int) : Str := ⟨(List.replicate k.toNat z.cps.toList).flatten.toArray⟩
theorem foldl_rep (a : Array Nat) : ∀ (n : Nat) (acc : Array Nat), ((List.replicate n a).foldl (· ++ ·) acc) = (acc.toList ++ (List.replicate n a.toList).flatten).toArray
  | 0, acc => by simp
  | n + 1, acc => by
    rw [List.replicate_succ, List.foldl_cons, foldl_rep a n, List.replicate_succ, List.flatten_cons]
    simp
theorem repS_eq (z : Str) (n : Int) : (⟨(List.replicate n.toNat z.cps).foldl (· ++ ·) #[]⟩ : Str) = repS z n := by
  unfold repS
  rw [foldl_rep]
  simp
def rMulSI : R2 := fun x y H Q => ∃ z k, x = .str z ∧ y = .int k ∧ 0 ≤ k ∧ k ≤ 1000 ∧ z.length ≤ 1000 ∧ Q (.str (repS z k)) H
theorem op_mulSI : OpR X (binaryOp .Mult) rMulSI := by
  intro pins s σ H x y v u Q I rx ry h
  obtain ⟨z, k, rfl, rfl, h0, h1, h2, q⟩ := h
  obtain ⟨t, rfl⟩ := rx
  obtain ⟨t', rfl⟩ := ry
  have hs : sizeLine = 16777216 := sizeLine_eq
  refine PySem.P.mul_str ?_ (fun a b => ?_) (fun a b => ?_) ?_
  · rw [decide_eq_false (by omega), decide_eq_false (by omega)]
    rfl
  · have h3 : (1000 : Int) ≤ (2 ^ 63 - 1) / k := (Int.le_ediv_iff_mul_le (by omega)).mpr (by omega)
    omega
  · unfold Builtin.Str.tooLong
    rw [decide_eq_false_iff_not]
    have h4 : z.length * k.toNat ≤ 1000 * 1000 := Nat.mul_le_mul h2 (by omega)
    omega
  · by_cases a : k < 1
    · have ek : k = 0 := by omega
      subst ek
      rw [if_pos a]
      have e : repS z 0 = Str.empty := rfl
      rw [e] at q
      exact ⟨by decide, .str Str.empty, H, I.tok _, ⟨_, rfl⟩, q⟩
    · rw [if_neg a]
      by_cases b : (k == 1 || z.length == 0) = true
      · rw [if_pos b]
        have e : repS z k = z := by
          rcases Bool.or_eq_true_iff.mp b with b | b
          · have e1 : k = 1 := by simpa using b
            subst e1
            unfold repS
            simp
          · have e1 : z.length = 0 := by simpa using b
            have e2 : z.cps = #[] := by simpa [Str.length] using e1
            obtain ⟨c⟩ := z
            unfold repS
            simp at e2
            subst e2
            simp
        rw [e] at q
        exact ⟨.str z, H, I, ⟨_, rfl⟩, q⟩
      · rw [if_neg b, repS_eq]
        refine ⟨?_, .str (repS z k), H, I.tok _, ⟨_, rfl⟩, q⟩
        have h4 : (repS z k).length = k.toNat * z.length := by
          unfold repS
          simp [Str.length, List.length_flatten, List.map_replicate, List.sum_replicate_nat]
        rw [h4]
        have h5 : k.toNat * z.length ≤ 1000 * 1000 := Nat.mul_le_mul (by omega) h2
        omega
/-- + of two ints, two texts, two lists -/
def rAddS : R2 := fun x y H Q => ∃ i j, x = .str i ∧ y = .str j ∧ i.length + j.length ≤ sizeLine ∧ Q (.str (i ++ j)) H
def rAddI : R2 := rI0 fun i j => .int (i + j)
def rAdd3 : R2 := fun x y H Q => rAddI x y H Q ∨ rAddS x y H Q ∨ rCat x y H Q
theorem op_add3 : OpR X (binaryOp .Add) rAdd3 := op_add.or (op_add_str.or op_cat)
def rMul2 : R2 := fun x y H Q => rI CMul (fun i j => .int (i * j)) x y H Q ∨ rMulSI x y H Q
theorem op_mul2 : OpR X (binaryOp .Mult) rMul2 := op_mul.or op_mulSI
/-- == -/
def rEq2 (K : PySem.W.Frag) : R2 := fun x y H Q => rEq x y H Q ∨ rEqD K x y H Q
theorem op_eq2 (hu : X.A.units + 64 < cLine) : OpR X (compareOp .Eq) (rEq2 X.K) := op_eq.or (op_eqD hu)
def rNe2 (K : PySem.W.Frag) : R2 := fun x y H Q => rNe x y H Q ∨ rNeD K x y H Q
theorem op_ne2 (hu : X.A.units + 64 < cLine) : OpR X (compareOp .NotEq) (rNe2 X.K) := op_ne.or (op_neD hu)
/-- in: a sign in a text; a flat item in a list or tuple -/
def rInS : R2 := fun x y H Q => ∃ (c : Nat) (z : Str), x = .str ⟨#[c]⟩ ∧ y = .str z ∧ Q (.bl (decide (c ∈ z.cps.toList))) H
def rNiS : R2 := fun x y H Q => ∃ (c : Nat) (z : Str), x = .str ⟨#[c]⟩ ∧ y = .str z ∧ Q (.bl (!decide (c ∈ z.cps.toList))) H
def rIn2 (K : PySem.W.Frag) : R2 := fun x y H Q => rInS x y H Q ∨ rIn K false x y H Q
def rNi2 (K : PySem.W.Frag) : R2 := fun x y H Q => rNiS x y H Q ∨ rIn K true x y H Q
theorem op_in2 : OpR X (compareOp .In) (rIn2 X.K) := op_in_sign.or op_in_seq
theorem op_ni2 : OpR X (compareOp .NotIn) (rNi2 X.K) := op_notIn_sign.or op_notIn_seq
def rSl2 (K : PySem.W.Frag) : V → Option Int → Option Int → Hp → VK → Prop := fun x lo hi H Q => rSlS x lo hi H Q ∨ rSlL K x lo hi H Q
theorem sl_2 : SlR X (rSl2 X.K) := sl_str.or sl_list
def rInt : List V → Hp → VK → Prop := fun xs H Q => ((∃ i, xs = [.int i] ∧ Q (.int i) H) ∨ ∃ k, xs = [.bl k] ∧ Q (.int (if k then 1 else 0)) H) ∨ ∃ a n, xs = [.str a] ∧ PySem.intText? a = some n ∧ a.length ≤ 640 ∧ Q (.int n) H
theorem call_int2 : CallR X (.type "int") rInt := CallR.or call_int1 call_int_str
def rAbs : List V → Hp → VK → Prop := fun xs H Q => ∃ i, xs = [.int i] ∧ Q (.int (if i < 0 then -i else i)) H
theorem call_abs2 : CallR X (.builtin "abs") rAbs := call_abs
def rLn (K : PySem.W.Frag) : List V → Hp → VK → Prop := fun xs H Q => ∃ x n, xs = [x] ∧ LenV K x H n ∧ Q (.int n) H
theorem call_len2 : CallR X (.builtin "len") (rLn X.K) := call_len
def tTr (K : PySem.W.Frag) (ta : TE) : TT := fun σ H Q => ta σ H fun x H' => ∃ k, TruV K x H' k ∧ Q k H'
theorem pt_tr {e : Expr} {te : TE} (h : PE X e te) (he : ∀ whole, isTrue e X.env whole = (do let v ← whole; standAt e.pos; holding [v] (truthy v)) := by intro _; rfl) : PT X e (tTr X.K te) := pt_truth h he
end

/-! ### what a heap keeps -/
/-- only at l -/
def Chg (l : Addr) (H H' : Hp) : Prop := ∀ b, b ≠ l → H' b = H b
theorem same_new {H : Hp} {p : Addr} {o : HO} (h : H p = none) : Same H (upd H p o) := fun b x e => by
  rw [upd_ne (ne_of_none e h)]
  exact e
theorem chg_upd {H : Hp} {p : Addr} {o : HO} : Chg p H (upd H p o) := fun b e => by rw [upd_ne e]
theorem Chg.same {l : Addr} {H0 H H' : Hp} (c : Chg l H H') (s : Same H0 H) (n : H0 l = none) : Same H0 H' := fun b o e => by
  rw [c b (ne_of_none e n)]
  exact s b o e
theorem Chg.at {l b : Addr} {H H' : Hp} {o : HO} (c : Chg l H H') (e : H b = some o) (n : b ≠ l) : H' b = some o := by
  rw [c b n]
  exact e
theorem new_same {H : Hp} {o : HO} {Q : VK} (h : ∀ p H2, H p = none → Same H H2 → H2 p = some o → Q (.ref p) H2) : ∀ p, H p = none → Q (.ref p) (upd H p o) :=
  fun p np => h p _ np (same_new np) upd_same
theorem lst_of {K : PySem.W.Frag} {H : Hp} {a : Addr} {xs : List V} (h : H a = some (.lst xs)) : SqL K H a xs := .inl (.inl h)
theorem tup_of {K : PySem.W.Frag} {H : Hp} {a : Addr} {xs : List V} (h : H a = some (.tup xs)) : SqT K H a xs := .inl (.inl h)
theorem seqT {K : PySem.W.Frag} {H H' : Hp} {a : Addr} {xs : List V} (e : Same H H') (h : SqT K H a xs) : SqT K H' a xs := by
  rcases h with (h | ⟨o, h⟩) | h
  · exact .inl (.inl (e _ _ h))
  · exact .inl (.inr ⟨o, e _ _ h⟩)
  · exact .inr h
/-! ### steps -/
def KBl (x : V) (H : Hp) (QT : Bool → Hp → Prop) : Prop := ∃ k, x = .bl k ∧ QT k H
def KTr (K : PySem.W.Frag) (x : V) (H : Hp) (QT : Bool → Hp → Prop) : Prop := ∃ k, TruV K x H k ∧ QT k H
def KInt (x : V) (H : Hp) (QO : Option Int → Hp → Prop) : Prop := ∃ i, x = .int i ∧ QO (some i) H
def KR1 (vs : List V) (H : Hp) (R : It → Hp → Prop) : Prop := ∃ j : Int, vs = [.int j] ∧ -(2 ^ 62) ≤ j ∧ j < 2 ^ 62 ∧ R (Itr 0 j.toNat) H
def KR2 (vs : List V) (H : Hp) (R : It → Hp → Prop) : Prop := ∃ i j : Int, vs = [.int i, .int j] ∧ (-(2 ^ 62) ≤ i ∧ i < 2 ^ 62 ∧ -(2 ^ 62) ≤ j ∧ j < 2 ^ 62) ∧ R (Itr i (j - i).toNat) H
def KL (K : PySem.W.Frag) (x : V) (H : Hp) (R : It → Hp → Prop) : Prop := ∃ a, x = .ref a ∧ (∃ xs, SqL K H a xs) ∧ R (Itl K a) H
def KT (K : PySem.W.Frag) (x : V) (H : Hp) (R : It → Hp → Prop) : Prop := ∃ a, x = .ref a ∧ (∃ xs, SqT K H a xs) ∧ R (Itt K a) H
def KS (x : V) (H : Hp) (R : It → Hp → Prop) : Prop := ∃ z, x = .str z ∧ R (Its z) H
def NewO (n : Nat) (o : HO) (H : Hp) (Q : VK) : Prop := n ≤ sizeLine ∧ ∀ p, H p = none → Q (.ref p) (upd H p o)
def COut (D : Addr) (y : V) (H : Hp) (N : Hp → Prop) : Prop := ∃ acc, H D = some (.lst acc) ∧ acc.length < sizeLine ∧ N (upd H D (.lst (acc ++ [y])))
def KWh (W : Nat → L2.St → Hp → Prop) (m : Nat) (t : TS) (D : Ends) (σ : L2.St) (H : Hp) : Prop := ∃ N : L2.St → Hp → Prop, (∀ σ' H', N σ' H' → ∃ m', m' < m ∧ W m' σ' H') ∧ t ⟨N, D.rt, D.nx, N⟩ σ H
section
variable {K : PySem.W.Frag} {σ : L2.St} {H : Hp} {Q : VK} {QT : Bool → Hp → Prop} {D : Ends} {t u : TS} {c c' : TT} {te ta tb : TE} {g : TG} {v x y : V} {i : Nat} {b : Bool} {QA : List V → Hp → Prop}
theorem s_seq (h : t ⟨u D, D.rt, D.bk, D.ct⟩ σ H) : tSeq t u D σ H := h
theorem s_asg (h : te σ H fun x H1 => g x σ H1 D.nx) : tAsg te g D σ H := h
theorem g_name {QS : L2.St → Hp → Prop} (h : QS (σ.set i (some v)) H) : gName i v σ H QS := h
theorem s_ret (h : te σ H D.rt) : tRet te D σ H := h
theorem s_retN (h : D.rt .non H) : tRetN D σ H := h
theorem s_drop (h : te σ H fun _ H1 => D.nx σ H1) : tDrop te D σ H := h
theorem s_if (h : c σ H fun b H1 => if b = true then t D σ H1 else u D σ H1) : tIfS c t u D σ H := h
theorem s_next (h : D.nx σ H) : tNext D σ H := h
theorem s_brk (h : D.bk σ H) : tBreak D σ H := h
theorem s_ct (h : D.ct σ H) : tCont D σ H := h
theorem s_aug {ti : TIp} (e : σ[i]? = some (some x)) (h : te σ H fun y H1 => ti x y H1 fun z H2 => D.nx (σ.set i (some z)) H2) : tAug i te ti D σ H := ⟨x, e, h⟩
theorem i_add {i j : Int} {f : Int → Int → Int} (h : Q (.int (f i j)) H) : ipI f (.int i) (.int j) H Q := ⟨i, j, rfl, rfl, h⟩
theorem s_cut (M : L2.St → Hp → Prop) (h : t ⟨M, D.rt, D.bk, D.ct⟩ σ H) (k : ∀ σ' H', M σ' H' → u D σ' H') : C8.tCut t u D σ H := ⟨M, h, k⟩
theorem e_var (e : σ[i]? = some (some v)) (h : Q v H) : tVar i σ H Q := ⟨v, e, h⟩
theorem e_c (h : Q v H) : tC v σ H Q := h
theorem e_op {r : R2} (h : ta σ H fun x H1 => tb σ H1 fun y H2 => r x y H2 Q) : tOp r ta tb σ H Q := h
theorem e_un {r : V → Hp → VK → Prop} (h : ta σ H fun x H1 => r x H1 Q) : tUn r ta σ H Q := h
theorem o_addI {i j : Int} (h : Q (.int (i + j)) H) : rAdd3 (.int i) (.int j) H Q := .inl ⟨i, j, rfl, rfl, h⟩
theorem o_addS {i j : Str} (hz : i.length + j.length ≤ sizeLine) (h : Q (.str (i ++ j)) H) : rAdd3 (.str i) (.str j) H Q := .inr (.inl ⟨i, j, rfl, rfl, hz, h⟩)
theorem o_addL {a a' : Addr} {xs ys : List V} (ha : H a = some (.lst xs)) (hb : H a' = some (.lst ys)) (hz : xs.length + ys.length ≤ sizeLine) (h : ∀ p H2, H p = none → Same H H2 → H2 p = some (.lst (xs ++ ys)) → Q (.ref p) H2) :
    rAdd3 (.ref a) (.ref a') H Q := .inr (.inr ⟨a, a', xs, ys, rfl, rfl, ha, hb, hz, new_same h⟩)
theorem o_mulI {i j : Int} (hc : CMul i j) (h : Q (.int (i * j)) H) : rMul2 (.int i) (.int j) H Q := .inl ⟨i, j, rfl, rfl, hc, h⟩
theorem o_mulI1 {i j : Int} (h1 : -(2 ^ 64) < i) (h2 : i < 2 ^ 64) (h : Q (.int (i * j)) H) : rMul2 (.int i) (.int j) H Q := o_mulI (.inl ⟨h1, h2⟩) h
theorem o_mulI2 {i j : Int} (h1 : -(2 ^ 64) < j) (h2 : j < 2 ^ 64) (h : Q (.int (i * j)) H) : rMul2 (.int i) (.int j) H Q := o_mulI (.inr ⟨h1, h2⟩) h
theorem o_mod {f : Int → Int → V} {i j : Int} (h1 : 0 < j) (h : Q (f i j) H) : rI (fun _ j => 0 < j) f (.int i) (.int j) H Q := ⟨i, j, rfl, rfl, h1, h⟩
theorem o_fdiv {f : Int → Int → V} {i j : Int} (h1 : 0 < j) (h2 : j < 1073741824) (h : Q (f i j) H) : rI CDiv f (.int i) (.int j) H Q := ⟨i, j, rfl, rfl, ⟨h1, h2⟩, h⟩
theorem o_pow {f : Int → Int → V} {i j : Int} (h1 : 0 ≤ j) (h2 : j ≤ 1000000) (h3 : i.natAbs < 2 ^ 64) (h : Q (f i j) H) : rI CPow f (.int i) (.int j) H Q := ⟨i, j, rfl, rfl, ⟨h1, h2, h3⟩, h⟩
theorem o_mulS {z : Str} {k : Int} (h0 : 0 ≤ k) (h1 : k ≤ 1000) (h2 : z.length ≤ 1000) (h : Q (.str (repS z k)) H) : rMul2 (.str z) (.int k) H Q := .inr ⟨z, k, rfl, rfl, h0, h1, h2, h⟩
theorem o_I0 {f : Int → Int → V} {i j : Int} (h : Q (f i j) H) : rI0 f (.int i) (.int j) H Q := ⟨i, j, rfl, rfl, h⟩
theorem o_I {C : Int → Int → Prop} {f : Int → Int → V} {i j : Int} (hc : C i j) (h : Q (f i j) H) : rI C f (.int i) (.int j) H Q := ⟨i, j, rfl, rfl, hc, h⟩
theorem o_eqS (hs : scal x y = true) (h : Q (.bl (decide (x = y))) H) : rEq2 K x y H Q := .inl ⟨hs, h⟩
theorem o_neS (hs : scal x y = true) (h : Q (.bl (!decide (x = y))) H) : rNe2 K x y H Q := .inl ⟨hs, h⟩
theorem o_eqD {d e : PyData} (h1 : Dp K H x d) (h2 : Dp K H y e) (h3 : SeqAt.shaped d = true) (h4 : SeqAt.shaped e = true) (h : Q (.bl (PyData.eqv d e)) H) : rEq2 K x y H Q := .inr ⟨d, e, h1, h2, h3, h4, h⟩
theorem o_neD {d e : PyData} (h1 : Dp K H x d) (h2 : Dp K H y e) (h3 : SeqAt.shaped d = true) (h4 : SeqAt.shaped e = true) (h : Q (.bl (!PyData.eqv d e)) H) : rNe2 K x y H Q := .inr ⟨d, e, h1, h2, h3, h4, h⟩
theorem o_inS {k : Nat} {z : Str} (h : Q (.bl (decide (k ∈ z.cps.toList))) H) : rIn2 K (.str ⟨#[k]⟩) (.str z) H Q := .inl ⟨k, z, rfl, rfl, h⟩
theorem o_niS {k : Nat} {z : Str} (h : Q (.bl (!decide (k ∈ z.cps.toList))) H) : rNi2 K (.str ⟨#[k]⟩) (.str z) H Q := .inl ⟨k, z, rfl, rfl, h⟩
theorem o_inT {a : Addr} {xs : List V} (hs : SqT K H a xs) (hf : flatV x = true) (hg : xs.all flatV = true) (h : Q (.bl (inV x xs)) H) : rIn2 K x (.ref a) H Q := .inr ⟨a, xs, rfl, .inr hs, hf, hg, h⟩
theorem o_inL {a : Addr} {xs : List V} (hs : SqL K H a xs) (hf : flatV x = true) (hg : xs.all flatV = true) (h : Q (.bl (inV x xs)) H) : rIn2 K x (.ref a) H Q := .inr ⟨a, xs, rfl, .inl hs, hf, hg, h⟩
theorem o_niT {a : Addr} {xs : List V} (hs : SqT K H a xs) (hf : flatV x = true) (hg : xs.all flatV = true) (h : Q (.bl (!inV x xs)) H) : rNi2 K x (.ref a) H Q := .inr ⟨a, xs, rfl, .inr hs, hf, hg, h⟩
theorem o_niL {a : Addr} {xs : List V} (hs : SqL K H a xs) (hf : flatV x = true) (hg : xs.all flatV = true) (h : Q (.bl (!inV x xs)) H) : rNi2 K x (.ref a) H Q := .inr ⟨a, xs, rfl, .inl hs, hf, hg, h⟩
def rIsN : R2 := fun x y H Q => y = .non ∧ Q (.bl (decide (x = .non))) H
def rNtN : R2 := fun x y H Q => y = .non ∧ Q (.bl (!decide (x = .non))) H
theorem op_isN2 {X : Cx} : OpR X (compareOp .Is) rIsN := op_isN
theorem op_ntN2 {X : Cx} : OpR X (compareOp .IsNot) rNtN := op_notN
theorem o_isN (h : Q (.bl (decide (x = .non))) H) : rIsN x .non H Q := ⟨rfl, h⟩
theorem o_ntN (h : Q (.bl (!decide (x = .non))) H) : rNtN x .non H Q := ⟨rfl, h⟩
theorem o_ixL {a : Addr} {xs : List V} {j : Int} (hs : SqL K H a xs) (e : atI xs j = some v) (h : Q v H) : rIx K (.ref a) (.int j) H Q := .inl ⟨a, xs, j, v, rfl, rfl, hs, e, h⟩
theorem o_ixT {a : Addr} {xs : List V} {j : Int} (hs : SqT K H a xs) (e : atI xs j = some v) (h : Q v H) : rIx K (.ref a) (.int j) H Q := .inr (.inl ⟨a, xs, j, v, rfl, rfl, hs, e, h⟩)
theorem o_ixS {z : Str} {j : Int} {k : Nat} (hz : z.length ≤ sizeLine) (e : atI z.cps.toList j = some k) (h : Q (.str ⟨#[k]⟩) H) : rIx K (.str z) (.int j) H Q := .inr (.inr ⟨z, j, k, rfl, rfl, hz, e, h⟩)
theorem u_neg {i : Int} {f : Int → V} (h : Q (f i) H) : rU f (.int i) H Q := ⟨i, rfl, h⟩
theorem t_test (h : te σ H fun x H' => KBl x H' QT) : tTest te σ H QT := h
theorem t_b (h : te σ H fun x H' => KBl x H' QT) : tB te σ H QT := h
theorem k_bl (h : QT b H) : KBl (.bl b) H QT := ⟨b, rfl, h⟩
theorem t_tr (h : te σ H fun x H' => KTr K x H' QT) : tTr K te σ H QT := h
theorem k_trB (h : QT b H) : KTr K (.bl b) H QT := ⟨b, rfl, h⟩
theorem k_trN (h : QT false H) : KTr K .non H QT := ⟨false, rfl, h⟩
theorem k_trI {i : Int} (h : QT (i != 0) H) : KTr K (.int i) H QT := ⟨_, rfl, h⟩
theorem k_trL {a : Addr} {xs : List V} (hs : SqL K H a xs) (h : QT (!xs.isEmpty) H) : KTr K (.ref a) H QT := ⟨_, .inl ⟨xs, hs, rfl⟩, h⟩
theorem k_trT {a : Addr} {xs : List V} (hs : SqT K H a xs) (h : QT (!xs.isEmpty) H) : KTr K (.ref a) H QT := ⟨_, .inr (.inl ⟨xs, hs, rfl⟩), h⟩
theorem t_and (h : c σ H fun b H1 => if b = true then c' σ H1 QT else QT false H1) : tAnd c c' σ H QT := h
theorem t_or (h : c σ H fun b H1 => if b = true then QT true H1 else c' σ H1 QT) : tOr c c' σ H QT := h
theorem t_not (h : c σ H fun b H1 => QT (!b) H1) : tNot c σ H QT := h
theorem e_andV (h : ta σ H fun x H1 => KBl x H1 fun b H2 => if b = true then tb σ H2 Q else Q (.bl false) H2) : tAndV ta tb σ H Q := h
theorem e_orV (h : ta σ H fun x H1 => KBl x H1 fun b H2 => if b = true then Q (.bl true) H2 else tb σ H2 Q) : tOrV ta tb σ H Q := h
theorem e_notV (h : ta σ H fun x H1 => KBl x H1 fun b H2 => Q (.bl (!b)) H2) : tNotV ta σ H Q := h
theorem e_if (h : c σ H fun b H1 => if b = true then ta σ H1 Q else tb σ H1 Q) : tIf c ta tb σ H Q := h
theorem e_chain {r r' : R2} {tc : TE} (h : ta σ H fun x H1 => tb σ H1 fun y H2 => r x y H2 fun z H3 => KBl z H3 fun k H3 => if k = true then tc σ H3 fun w' H4 => r' y w' H4 Q else Q (.bl false) H3) : tChain r r' ta tb tc σ H Q := h
theorem a_nil (h : QA [] H) : tNil σ H QA := h
theorem a_cons {tr : TA} (h : te σ H fun x H1 => tr σ H1 fun xs H2 => QA (x :: xs) H2) : tCons te tr σ H QA := h
theorem c_b {r : List V → Hp → VK → Prop} {tl : TA} (h : tl σ H fun vs H1 => r vs H1 Q) : tCB r tl σ H Q := h
theorem c_call {sp : Sp} {dvs : List V} {E : XK} {tl : TA} (h : tl σ H fun vs H1 => sp (vs ++ dvs) H1 Q E) : tCall sp dvs E tl σ H Q := h
theorem b_lenS {z : Str} (hz : z.length ≤ sizeLine) (h : Q (.int z.length) H) : rLn K [.str z] H Q := ⟨_, z.length, rfl, ⟨hz, rfl⟩, h⟩
theorem b_lenL {a : Addr} {xs : List V} (hs : SqL K H a xs) (h : Q (.int xs.length) H) : rLn K [.ref a] H Q := ⟨_, xs.length, rfl, .inl ⟨xs, hs, rfl⟩, h⟩
theorem b_lenT {a : Addr} {xs : List V} (hs : SqT K H a xs) (h : Q (.int xs.length) H) : rLn K [.ref a] H Q := ⟨_, xs.length, rfl, .inr ⟨xs, hs, rfl⟩, h⟩
theorem b_int {i : Int} (h : Q (.int i) H) : rInt [.int i] H Q := .inl (.inl ⟨i, rfl, h⟩)
theorem b_intB (h : Q (.int (if b then 1 else 0)) H) : rInt [.bl b] H Q := .inl (.inr ⟨b, rfl, h⟩)
theorem b_intS {z : Str} {n : Int} (e : PySem.intText? z = some n) (hl : z.length ≤ 640) (h : Q (.int n) H) : rInt [.str z] H Q := .inr ⟨z, n, rfl, e, hl, h⟩
theorem b_abs {i : Int} (h : Q (.int (if i < 0 then -i else i)) H) : rAbs [.int i] H Q := ⟨i, rfl, h⟩
theorem b_isi {n : String} {x : V} {tv : Value} (ty : TyX K H x tv) (h : PySem.W.kitOne K tv (.type n) = some b) (q : Q (.bl b) H) : rIsi K [x, .ty n] H Q := ⟨x, .ty n, tv, .type n, b, rfl, .ty n, ty, h, q⟩
theorem e_tup {tl : TA} (h : tl σ H fun xs H1 => NewO xs.length (.tup xs) H1 Q) : tTup tl σ H Q := h
theorem e_lst {tl : TA} (h : tl σ H fun xs H1 => NewO xs.length (.lst xs) H1 Q) : tLst tl σ H Q := h
theorem n_obj {n : Nat} {o : HO} (hz : n ≤ sizeLine) (h : ∀ p H2, H p = none → Same H H2 → H2 p = some o → Q (.ref p) H2) : NewO n o H Q := ⟨hz, new_same h⟩
theorem e_sl {r : V → Option Int → Option Int → Hp → VK → Prop} {tl th : TO} (h : te σ H fun x H1 => tl σ H1 fun l H2 => th σ H2 fun u H3 => r x l u H3 Q) : tSl r te tl th σ H Q := h
theorem p_no {QO : Option Int → Hp → Prop} (h : QO none H) : tNoPart σ H QO := h
theorem p_so {QO : Option Int → Hp → Prop} (h : te σ H fun x H1 => KInt x H1 QO) : tPart te σ H QO := h
theorem k_int {i : Int} {QO : Option Int → Hp → Prop} (h : QO (some i) H) : KInt (.int i) H QO := ⟨i, rfl, h⟩
theorem l_S {z : Str} {lo hi : Option Int} (hz : z.length ≤ sizeLine) (h : Q (.str (cutS z lo hi)) H) : rSl2 K (.str z) lo hi H Q := .inl ⟨z, rfl, hz, h⟩
theorem l_L {a : Addr} {xs : List V} {lo hi : Option Int} (hs : SqL K H a xs) (h : ∀ p H2, H p = none → Same H H2 → H2 p = some (.lst (cutV xs lo hi)) → Q (.ref p) H2) : rSl2 K (.ref a) lo hi H Q := .inr ⟨a, xs, rfl, hs, new_same h⟩
/-- o.m(..), m of a built-in type -/
theorem m_bm {T : String} {r : V → List V → Hp → VK → Prop} {tl : TA} (h : te σ H fun x H1 => tyV K T x H1 ∧ tl σ H1 fun xs H2 => r x xs H2 Q) : tBM K T r te tl σ H Q := h
theorem m_ty {a : Addr} {xs : List V} {P : Prop} (hs : SqL K H a xs) (h : P) : tyV K "list" (.ref a) H ∧ P := ⟨.inl ⟨rfl, xs, hs⟩, h⟩
theorem m_app {a : Addr} {xs : List V} (e : H a = some (.lst xs)) (hz : xs.length < sizeLine) (h : ∀ H2, Chg a H H2 → H2 a = some (.lst (xs ++ [y])) → Q .non H2) : rAppend (.ref a) [y] H Q := ⟨a, xs, y, rfl, rfl, e, hz, h _ chg_upd upd_same⟩
theorem g_sub {to ti : TE} {ts : TSet} {QS : L2.St → Hp → Prop} (h : to σ H fun o H1 => ti σ H1 fun i H2 => ts o i v H2 fun H3 => QS σ H3) : gSub to ti ts v σ H QS := h
theorem st_L {a : Addr} {xs : List V} {k : Int} {j : Nat} {QH : Hp → Prop} (e : H a = some (.lst xs)) (hj : ixN xs.length k = some j) (h : ∀ H2, Chg a H H2 → H2 a = some (.lst (xs.set j v)) → QH H2) : rSetL (.ref a) (.int k) v H QH := ⟨a, xs, k, j, rfl, rfl, e, hj, h _ chg_upd upd_same⟩
theorem m_m1 {r : V → List V → Hp → VK → Prop} (h : te σ H fun x H1 => (∃ a, x = .str a) ∧ ta σ H1 fun y H2 => r x [y] H2 Q) : tM1 r te ta σ H Q := h
theorem m_st {z : Str} {P : Prop} (h : P) : (∃ a, V.str z = .str a) ∧ P := ⟨⟨z, rfl⟩, h⟩
def rJoin (K : PySem.W.Frag) : V → List V → Hp → VK → Prop := fun x xs H Q => ∃ a p, ∃ ys : List Str, x = .str a ∧ xs = [.ref p] ∧ (SqL K H p (ys.map V.str) ∨ SqT K H p (ys.map V.str)) ∧
  (ys.map (·.length)).sum + ys.length * a.length ≤ 16777216 ∧ Q (.str (Txt.join a ys)) H
theorem pe_join2 {X : Cx} {o e : Expr} {to te : TE} {apos pos : Pos} (ho : PE X o to) (he : PE X e te) (hs : starEach [e] X.env = [(false, eval e X.env)] := by rfl) (hbase : attributeBase o "join" X.env (eval o X.env) = eval o X.env := by rfl) (hline : (apos.endLine == pos.line) = true := by rfl) :
    PE X (.Call (.Attribute o "join" apos) [e] [] pos) (tM1 (rJoin X.K) to te) := pe_join ho he hs hbase hline
theorem m_join {z : Str} {a : Addr} {ys : List Str} (hs : SqL K H a (ys.map V.str)) (hz : (ys.map (·.length)).sum + ys.length * z.length ≤ 16777216) (h : Q (.str (Txt.join z ys)) H) : rJoin K (.str z) [.ref a] H Q := ⟨z, a, ys, rfl, rfl, .inl hs, hz, h⟩
/-! ### loops -/
def LoopF (J : It) (g : TG) (tb : TS) (D : Ends) (σ : L2.St) (H : Hp) : Prop := ∃ W : Nat → Nat → L2.St → Hp → Prop, (∃ m, W 0 m σ H) ∧ ∀ i m σ H, W i m σ H →
  (J.stop i H ∧ D.nx σ H) ∨ (J.go i H ∧ ∃ N : L2.St → Hp → Prop, (∀ σ' H', N σ' H' → ∃ m', m' < m ∧ W (i + 1) m' σ' H') ∧ ∀ x H', J.yld i H x H' → g x σ H' fun σ2 H2 => tb { D with nx := N, ct := N, bk := D.nx } σ2 H2)
theorem s_for {wi : TI} (h : wi σ H fun J H1 => LoopF J g t D σ H1) : tFor wi g t D σ H := h
def LoopC (J : It) (g : TG) (tt : TT) (te : TE) (vs : List Nat) (σ : L2.St) (H1 : Hp) (Q : VK) : Prop := ∀ D, H1 D = none → ∃ W : Nat → Nat → Hp → Prop, (∃ m, W 0 m (upd H1 D (.lst []))) ∧ ∀ i m H, W i m H →
  (J.stop i H ∧ Q (.ref D) H) ∨ (J.go i H ∧ ∃ Nx : Hp → Prop, (∀ H', Nx H' → ∃ m', m' < m ∧ W (i + 1) m' H') ∧ ∀ x H', J.yld i H x H' → g x (wipe σ vs) H' fun σ2 H2 => wipe σ2 vs = wipe σ vs ∧ tt σ2 H2 fun b H3 =>
    if b = true then te σ2 H3 fun y H4 => ∃ acc, H4 D = some (.lst acc) ∧ acc.length < sizeLine ∧ Nx (upd H4 D (.lst (acc ++ [y]))) else Nx H3)
theorem e_lc {wi : TI} {tt : TT} {vs : List Nat} (h : wi σ H fun J H1 => LoopC J g tt te vs σ H1 Q) : tLc wi g tt te vs σ H Q := h
theorem t_yes (h : QT true H) : tYes σ H QT := h
theorem w_r1 {tl : TA} {R : It → Hp → Prop} (h : tl σ H fun vs H1 => KR1 vs H1 R) : iRng1 tl σ H R := h
theorem w_r2 {tl : TA} {R : It → Hp → Prop} (h : tl σ H fun vs H1 => KR2 vs H1 R) : iRng2 tl σ H R := h
theorem k_r1 {j : Int} {R : It → Hp → Prop} (h1 : -(2 ^ 62) ≤ j) (h2 : j < 2 ^ 62) (h : R (Itr 0 j.toNat) H) : KR1 [.int j] H R := ⟨j, rfl, h1, h2, h⟩
theorem k_r2 {i j : Int} {R : It → Hp → Prop} (h1 : -(2 ^ 62) ≤ i ∧ i < 2 ^ 62 ∧ -(2 ^ 62) ≤ j ∧ j < 2 ^ 62) (h : R (Itr i (j - i).toNat) H) : KR2 [.int i, .int j] H R := ⟨i, j, rfl, h1, h⟩
theorem w_l {R : It → Hp → Prop} (h : te σ H fun x H1 => KL K x H1 R) : iList K te σ H R := h
theorem k_l {a : Addr} {xs : List V} {R : It → Hp → Prop} (hs : SqL K H a xs) (h : R (Itl K a) H) : KL K (.ref a) H R := ⟨a, rfl, ⟨xs, hs⟩, h⟩
theorem w_t {R : It → Hp → Prop} (h : te σ H fun x H1 => KT K x H1 R) : iTup K te σ H R := h
theorem k_t {a : Addr} {xs : List V} {R : It → Hp → Prop} (hs : SqT K H a xs) (h : R (Itt K a) H) : KT K (.ref a) H R := ⟨a, rfl, ⟨xs, hs⟩, h⟩
theorem f_range {lo : Int} {n : Nat} (Pv : Nat → L2.St → Hp → Prop) (h0 : Pv 0 σ H)
    (hs : ∀ i σ H, i < n → Pv i σ H → g (.int (lo + i)) σ H fun σ2 H2 => t ⟨Pv (i + 1), D.rt, D.nx, Pv (i + 1)⟩ σ2 H2) (hd : ∀ σ H, Pv n σ H → D.nx σ H) : LoopF (Itr lo n) g t D σ H := for_range Pv h0 hs hd
theorem f_list {a : Addr} {xs : List V} (Pv : Nat → L2.St → Hp → Prop) (h0 : Pv 0 σ H) (hl : ∀ i σ H, i ≤ xs.length → Pv i σ H → SqL K H a xs)
    (hs : ∀ i x σ H, xs[i]? = some x → Pv i σ H → g x σ H fun σ2 H2 => t ⟨Pv (i + 1), D.rt, D.nx, Pv (i + 1)⟩ σ2 H2) (hd : ∀ σ H, Pv xs.length σ H → D.nx σ H) : LoopF (Itl K a) g t D σ H := for_list Pv h0 hl hs hd
theorem f_tup {a : Addr} {xs : List V} (Pv : Nat → L2.St → Hp → Prop) (h0 : Pv 0 σ H) (hl : ∀ i σ H, i ≤ xs.length → Pv i σ H → SqT K H a xs)
    (hs : ∀ i x σ H, xs[i]? = some x → Pv i σ H → g x σ H fun σ2 H2 => t ⟨Pv (i + 1), D.rt, D.nx, Pv (i + 1)⟩ σ2 H2) (hd : ∀ σ H, Pv xs.length σ H → D.nx σ H) : LoopF (Itt K a) g t D σ H := for_tup Pv h0 hl hs hd
/-- a text, sign by sign -/
theorem w_s {R : It → Hp → Prop} (h : te σ H fun x H1 => KS x H1 R) : iStr te σ H R := h
theorem k_s {z : Str} {R : It → Hp → Prop} (h : R (Its z) H) : KS (.str z) H R := ⟨z, rfl, h⟩
theorem f_str {z : Str} (Pv : Nat → L2.St → Hp → Prop) (h0 : Pv 0 σ H)
    (hs : ∀ i k σ H, z.cps.toList[i]? = some k → Pv i σ H → g (.str ⟨#[k]⟩) σ H fun σ2 H2 => t ⟨Pv (i + 1), D.rt, D.nx, Pv (i + 1)⟩ σ2 H2) (hd : ∀ σ H, Pv z.cps.toList.length σ H → D.nx σ H) : LoopF (Its z) g t D σ H := by
  refine ⟨fun i m σ H => m = z.cps.toList.length - i ∧ i ≤ z.cps.toList.length ∧ Pv i σ H, ⟨_, rfl, Nat.zero_le _, h0⟩, ?_⟩
  rintro i m σ H ⟨rfl, hi, p⟩
  by_cases hlt : i < z.cps.toList.length
  · refine .inr ⟨show i < z.cps.size by simpa using hlt, Pv (i + 1), fun σ' H' p' => ⟨z.cps.toList.length - (i + 1), by omega, rfl, hlt, p'⟩, fun x H' y => ?_⟩
    obtain ⟨rfl, k, e, rfl⟩ := y
    exact hs i k σ _ (by simpa using e) p
  · have e : i = z.cps.toList.length := by omega
    subst e
    exact .inl ⟨by simp [Its], hd σ H p⟩
theorem c_range {lo : Int} {n : Nat} {vs : List Nat} {tt : TT} (Pv : Addr → Nat → Hp → Prop) (h0 : ∀ D H1, H D = none → Same H H1 → H1 D = some (.lst []) → Pv D 0 H1)
    (hs : ∀ D i H1, i < n → H D = none → Pv D i H1 → g (.int (lo + i)) (wipe σ vs) H1 fun σ2 H2 => wipe σ2 vs = wipe σ vs ∧ tt σ2 H2 fun b H3 =>
      if b = true then te σ2 H3 fun y H4 => COut D y H4 (Pv D (i + 1)) else Pv D (i + 1) H3) (hd : ∀ D H1, H D = none → Pv D n H1 → Q (.ref D) H1) :
    LoopC (Itr lo n) g tt te vs σ H Q := fun D nD => lc_range (Pv D) (h0 D _ nD (same_new nD) upd_same) (fun i H1 hi p => hs D i H1 hi nD p) fun H1 p => hd D H1 nD p
theorem c_list {a : Addr} {xs : List V} {vs : List Nat} {tt : TT} (Pv : Addr → Nat → Hp → Prop) (h0 : ∀ D H1, H D = none → Same H H1 → H1 D = some (.lst []) → Pv D 0 H1) (hl : ∀ D i H1, i ≤ xs.length → H D = none → Pv D i H1 → SqL K H1 a xs)
    (hs : ∀ D i x H1, xs[i]? = some x → H D = none → Pv D i H1 → g x (wipe σ vs) H1 fun σ2 H2 => wipe σ2 vs = wipe σ vs ∧ tt σ2 H2 fun b H3 =>
      if b = true then te σ2 H3 fun y H4 => COut D y H4 (Pv D (i + 1)) else Pv D (i + 1) H3) (hd : ∀ D H1, H D = none → Pv D xs.length H1 → Q (.ref D) H1) :
    LoopC (Itl K a) g tt te vs σ H Q := fun D nD => lc_list (Pv D) (h0 D _ nD (same_new nD) upd_same) (fun i H1 hi p => hl D i H1 hi nD p) (fun i x H1 hi p => hs D i x H1 hi nD p) fun H1 p => hd D H1 nD p
theorem c_out {D : Addr} {acc : List V} {N : Hp → Prop} (e : H D = some (.lst acc)) (hz : acc.length < sizeLine) (h : ∀ H2, Chg D H H2 → H2 D = some (.lst (acc ++ [y])) → N H2) : COut D y H N := ⟨acc, e, hz, h _ chg_upd upd_same⟩
theorem s_while (W : Nat → L2.St → Hp → Prop) (m0 : Nat) (h0 : W m0 σ H) (hs : ∀ m σ H, W m σ H → c σ H fun b H1 => if b = true then KWh W m t D σ H1 else D.nx σ H1) : tWhile c t D σ H := ⟨W, ⟨m0, h0⟩, hs⟩
theorem k_while {W : Nat → L2.St → Hp → Prop} {m : Nat} (h : t ⟨fun σ' H' => ∃ m', m' < m ∧ W m' σ' H', D.rt, D.nx, fun σ' H' => ∃ m', m' < m ∧ W m' σ' H'⟩ σ H) : KWh W m t D σ H := ⟨_, fun _ _ q => q, h⟩
end
/-! ### a def of the top -/
structure DefOk (K : PySem.W.Frag) (mg : Str → Option Value) (x : Str) (st : Stmt) : Prop where
  ex : ∃ f fd, FunD K x x (defArgs st) (defBody st) (defScope st) [] [] f fd ∧ mg x = some (.ref f)
theorem cal_of {P : Program} {w : World} {K : PySem.W.Frag} {mg : Str → Option Value} {base : Heap} {x : Str} {st : Stmt} {N ps : List Str} {k : Nat} {sp : Sp} (F : DefOk K mg x st) (S : FnScope N ps (defScope st))
    (hb : ∀ f fd, FunD K x x (defArgs st) (defBody st) (defScope st) [] [] f fd → Binds K fd ps []) (len : ∀ vs H Q E, sp vs H Q E → vs.length = ps.length)
    (body : ∀ (f : Addr) (cdv : Value) (A : Around) (outer : List Env) (s : Shared) (H : Hp) (vs : List V) (Q : VK) (E : XK), Room k (A.deeper (envOfC x (defScope st) s.heap.objs.size f cdv)) → sp vs H Q E →
      ∃ t, PSs (cxOf CX0 P w K mg base N x (defScope st) f cdv A outer s H E).nox (defBody st) t ∧ t { nx := fun _ H' => Q .non H', rt := Q } (start N vs) H) : C8.Cal P w K mg base (k + 1) x sp [] := by
  obtain ⟨f, fd, F, hm⟩ := F.ex
  refine ⟨f, fd, ps, [], F.ok S len fun cdv A outer s H vs Q E hr h => ?_, hm, F.kp, hb f fd F, .nil⟩
  obtain ⟨t, h1, h2⟩ := body f cdv A outer s H vs Q E hr h
  exact ⟨t, PSs.nox h1, h2⟩
/-! ### calls without arguments -/
section
variable {X : Cx} {k j : Nat} {x : Str} {sp : Sp} {dvs : List V} {p pos : Pos}
theorem pe_c0 (c : C8.Cal X.prog X.w X.K X.mg X.base k x sp dvs) (hr : Room j X.A) (hk : k ≤ j) (hg : Gl X x) (hdb : (x == ("__debug__" : Str)) = false := by decide) :
    PE X (.Call (.Name x p) [] [] pos) (tCall sp dvs C8.E0 tNil) := by
  obtain ⟨f, fd, ps, ds, F, hm, kp, b, d⟩ := c.ex
  exact pe_call0 F (hr.mono hk) hg hm kp b d pass0 hdb
end
/-! ### a law's own hand of draws -/
def HandAt (H : Hp) (h d : Addr) : Prop := ∃ (n : Int) (ds : List Int), H h = some (.lst [.ref d, .int n]) ∧ 0 ≤ n ∧ H d = some (.lst (ds.map V.int))
/-- a draw below many -/
def spTake : Sp := fun vs H Q _ => ∃ (h d : Addr) (m : Int), vs = [.ref h, .int m] ∧ HandAt H h d ∧ 0 < m ∧ ∀ r H', 0 ≤ r → r < m → Chg h H H' → HandAt H' h d → Q (.int r) H'
theorem HandAt.ne {H : Hp} {h d : Addr} (x : HandAt H h d) : d ≠ h := by
  obtain ⟨n, ds, h1, h2, h3⟩ := x
  intro e
  subst e
  rw [h1] at h3
  cases ds <;> cases h3
theorem HandAt.same {H H' : Hp} {h d : Addr} (s : Same H H') (x : HandAt H h d) : HandAt H' h d := by
  obtain ⟨n, ds, h1, h2, h3⟩ := x
  exact ⟨n, ds, s _ _ h1, h2, s _ _ h3⟩
theorem HandAt.chg {H H' : Hp} {h d D : Addr} (c : Chg D H H') (x : HandAt H h d) (n1 : h ≠ D) (n2 : d ≠ D) : HandAt H' h d := by
  obtain ⟨n, ds, h1, h2, h3⟩ := x
  exact ⟨n, ds, c.at h1 n1, h2, c.at h3 n2⟩
theorem HandAt.new {H : Hp} {h d D : Addr} (x : HandAt H h d) (n : H D = none) : h ≠ D ∧ d ≠ D := by
  obtain ⟨_, ds, h1, h2, h3⟩ := x
  exact ⟨ne_of_none h1 n, ne_of_none h3 n⟩
/-- all but h is kept -/
def Keep (h : Addr) (H H' : Hp) : Prop := ∀ b o, b ≠ h → H b = some o → H' b = some o
theorem Keep.refl (h : Addr) (H : Hp) : Keep h H H := fun _ _ _ e => e
theorem Keep.trans {h : Addr} {H H1 H2 : Hp} (a : Keep h H H1) (b : Keep h H1 H2) : Keep h H H2 := fun c o n e => b c o n (a c o n e)
theorem Chg.keep {h : Addr} {H H' : Hp} (c : Chg h H H') : Keep h H H' := fun b o n e => c.at e n
theorem _root_.L2.Same.keep {h : Addr} {H H' : Hp} (c : Same H H') : Keep h H H' := fun b o _ e => c b o e
theorem Keep.chg {h D : Addr} {H H1 H2 : Hp} (k : Keep h H H1) (c : Chg D H1 H2) (n : H D = none) : Keep h H H2 := fun b o m e => c.at (k b o m e) (ne_of_none e n)
theorem Keep.free {h D : Addr} {H H1 : Hp} (k : Keep h H H1) (n : H1 D = none) (m : D ≠ h) : H D = none := by
  cases q : H D with
  | none => rfl
  | some o =>
    rw [k D o m q] at n
    cases n
theorem Keep.at {h b : Addr} {H H' : Hp} {o : HO} (c : Keep h H H') (e : H b = some o) (n : b ≠ h) : H' b = some o := c b o n e
theorem atI_of {α : Type} {xs : List α} {i : Int} {j : Nat} {v : α} (e : i = (j : Int)) (h : xs[j]? = some v) : atI xs i = some v := by
  subst e
  exact atI_nat h
/-! ### texts -/
theorem joinL_nil : ∀ ps : List (List Nat), TL.joinL [] ps = ps.flatten
  | [] => rfl
  | [p] => by simp [TL.joinL]
  | p :: q :: r => by
    show p ++ ([] ++ TL.joinL [] (q :: r)) = _
    rw [joinL_nil (q :: r)]
    simp
theorem join_empty (ys : List Str) : (Txt.join (Str.ofString "") ys).cps.toList = (ys.map fun y => y.cps.toList).flatten := by
  rw [TL.join_eq]
  have h := TL.tl_join (Str.ofString "") ys
  have e : TL.tl (Str.ofString "") = [] := by decide +kernel
  rw [e, joinL_nil] at h
  exact h
theorem str_len (z : Str) : z.length = z.cps.toList.length := by simp [Str.length]
theorem str_ext {x y : Str} (h : x.cps.toList = y.cps.toList) : x = y := by
  obtain ⟨a⟩ := x
  obtain ⟨b⟩ := y
  have e : a = b := Array.ext' h
  rw [e]
theorem app_len (x y : Str) : (x ++ y).length = x.length + y.length := by
  show (x.cps ++ y.cps).size = x.cps.size + y.cps.size
  simp
theorem app_tl (x y : Str) : (x ++ y).cps.toList = x.cps.toList ++ y.cps.toList := by
  show (x.cps ++ y.cps).toList = x.cps.toList ++ y.cps.toList
  simp
theorem repS_len (z : Str) (k : Int) : (repS z k).length = k.toNat * z.length := by
  unfold repS
  simp [Str.length, List.length_flatten, List.map_replicate, List.sum_replicate_nat]
theorem cutS_nat (z : Str) {i j : Nat} (hi : i ≤ z.length) (hj : j ≤ z.length) : (cutS z (some (i : Int)) (some (j : Int))).cps.toList = (z.cps.toList.drop i).take (j - i) := by
  unfold cutS
  rw [HT.sIx_nat, HT.sIx_nat, Nat.min_eq_left hi, Nat.min_eq_left hj]
theorem cutS_len2 (z : Str) (i : Nat) : (cutS z (some (i : Int)) (some ((i + 2 : Nat) : Int))).length = min (i + 2) z.length - min i z.length := by
  unfold cutS
  rw [HT.sIx_nat, HT.sIx_nat]
  show ((((z.cps.toList.drop (min i z.length)).take (min (i + 2) z.length - min i z.length)).toArray).size) = _
  rw [List.size_toArray, List.length_take, List.length_drop, Array.length_toList]
  show min _ (z.length - _) = _
  omega
/-- the place behind the longest run from i of signs in p -/
def runEnd (cs p : List Nat) (i : Nat) : Nat := i + ((cs.drop i).takeWhile fun c => decide (c ∈ p)).length
theorem runEnd_out {cs p : List Nat} {i : Nat} (h : cs.length ≤ i) : runEnd cs p i = i := by
  unfold runEnd
  rw [List.drop_of_length_le h]
  rfl
theorem runEnd_no {cs p : List Nat} {i c : Nat} (e : cs[i]? = some c) (h : c ∉ p) : runEnd cs p i = i := by
  unfold runEnd
  have hi : i < cs.length := (List.getElem?_eq_some_iff.mp e).1
  rw [List.drop_eq_getElem_cons hi, (List.getElem?_eq_some_iff.mp e).2, List.takeWhile_cons_of_neg (by simpa using h)]
  rfl
theorem runEnd_yes {cs p : List Nat} {i c : Nat} (e : cs[i]? = some c) (h : c ∈ p) : runEnd cs p i = runEnd cs p (i + 1) := by
  unfold runEnd
  have hi : i < cs.length := (List.getElem?_eq_some_iff.mp e).1
  rw [List.drop_eq_getElem_cons hi, (List.getElem?_eq_some_iff.mp e).2, List.takeWhile_cons_of_pos (by simpa using h), List.length_cons]
  omega
theorem runEnd_ge (cs p : List Nat) (i : Nat) : i ≤ runEnd cs p i := Nat.le_add_right _ _
theorem runEnd_le {cs p : List Nat} {i : Nat} (h : i ≤ cs.length) : runEnd cs p i ≤ cs.length := by
  unfold runEnd
  have h1 := (List.takeWhile_prefix (fun c => decide (c ∈ p)) (l := cs.drop i)).length_le
  rw [List.length_drop] at h1
  omega
theorem runEnd_all {cs p : List Nat} : runEnd cs p 0 = cs.length ↔ ∀ c ∈ cs, c ∈ p := by
  unfold runEnd
  rw [List.drop_zero, Nat.zero_add]
  induction cs with
  | nil => simp
  | cons a r ih =>
    by_cases h : a ∈ p
    · rw [List.takeWhile_cons_of_pos (by simpa using h), List.length_cons, List.length_cons, Nat.add_right_cancel_iff, ih]
      simp [h]
    · rw [List.takeWhile_cons_of_neg (by simpa using h)]
      simp [h]
theorem atI_cps {z : Str} {i : Nat} (h : i < z.length) : ∃ c, z.cps.toList[i]? = some c ∧ atI z.cps.toList (i : Int) = some c := by
  have h1 : i < z.cps.toList.length := by rw [← str_len]; exact h
  exact ⟨_, List.getElem?_eq_getElem h1, atI_nat (List.getElem?_eq_getElem h1)⟩
theorem small1000' {n : Nat} (h : n ≤ 100000) : n < sizeLine := Nat.lt_of_le_of_lt h (by decide)
theorem ixN_nat {n j : Nat} (h : j < n) : ixN n (j : Int) = some j := by
  unfold ixN
  rw [if_pos (by omega), if_pos (by omega)]
  simp
/-- one sign, compared -/
theorem sign_eq {c k : Nat} {y : Str} (hy : y = ⟨#[k]⟩) : decide (V.str ⟨#[c]⟩ = V.str y) = true ↔ c = k := by
  rw [decide_eq_true_iff, hy]
  constructor
  · intro e
    injection e with e
    injection e with e
    have e2 := congrArg Array.toList e
    simpa using e2
  · intro e
    rw [e]
theorem snoc_int {H : Hp} {d : Addr} {ds : List Int} {v : Int} (e : H d = some (.lst (ds.map V.int ++ [.int v]))) : ∃ ds' : List Int, H d = some (.lst (ds'.map V.int)) ∧ ds'.length = ds.length + 1 :=
  ⟨ds ++ [v], by rw [e, List.map_append]; rfl, by rw [List.length_append]; rfl⟩
/-- the items are texts of at most m signs -/
def strsB (m : Nat) (xs : List V) : Bool := xs.all fun x => match x with | .str y => decide (y.length ≤ m) | _ => false
theorem item_str (xs : List V) {m : Nat} (h : strsB m xs = true) {j : Nat} (hj : j < xs.length) : ∃ y : Str, xs[j]? = some (.str y) ∧ y.length ≤ m := by
  have h1 := List.all_eq_true.mp h xs[j] (List.getElem_mem hj)
  cases e : xs[j] with
  | str y =>
    rw [e] at h1
    exact ⟨y, by rw [List.getElem?_eq_getElem hj, e], of_decide_eq_true h1⟩
  | _ =>
    rw [e] at h1
    cases h1
theorem fn_of2 {P : Program} {w : World} {K : PySem.W.Frag} {mg : Str → Option Value} {base : Heap} {x : Str} {st : Stmt} {N ps : List Str} {k : Nat} {sp : Sp} {f : Addr} {fd : FuncData} (F : FunD K x x (defArgs st) (defBody st) (defScope st) [] [] f fd) (S : FnScope N ps (defScope st))
    (len : ∀ vs H Q E, sp vs H Q E → vs.length = ps.length)
    (body : ∀ (f : Addr) (cdv : Value) (A : Around) (outer : List Env) (s : Shared) (H : Hp) (vs : List V) (Q : VK) (E : XK), Room k (A.deeper (envOfC x (defScope st) s.heap.objs.size f cdv)) → sp vs H Q E →
      ∃ t, PSs (cxOf CX0 P w K mg base N x (defScope st) f cdv A outer s H E).nox (defBody st) t ∧ t { nx := fun _ H' => Q .non H', rt := Q } (start N vs) H) : FnOk P w K mg base CX0 (k + 1) f fd ps sp :=
  F.ok S len fun cdv A outer s H vs Q E hr h => by
    obtain ⟨t, h1, h2⟩ := body f cdv A outer s H vs Q E hr h
    exact ⟨t, PSs.nox h1, h2⟩
theorem lz {n : Nat} (h : n ≤ 1000) : n ≤ sizeLine := Nat.le_of_lt (small1000 h)
/-! ### more steps -/
def rStrI : List V → Hp → VK → Prop := fun xs H Q => ∃ i, xs = [.int i] ∧ i.natAbs.log2 < 1920 ∧ Q (.str (toString i)) H
theorem call_strI {X : Cx} : CallR X (.type "str") rStrI := call_str_int
def rLst (K : PySem.W.Frag) : List V → Hp → VK → Prop := fun xs H Q => ∃ p ys, xs = [.ref p] ∧ (SqL K H p ys ∨ SqT K H p ys) ∧ ∀ l, H l = none → Q (.ref l) (upd H l (.lst ys))
theorem call_lst {X : Cx} : CallR X (.type "list") (rLst X.K) := call_list_of
def rTpl (K : PySem.W.Frag) : List V → Hp → VK → Prop := fun xs H Q => ∃ p ys, xs = [.ref p] ∧ SqL K H p ys ∧ ∀ l, H l = none → Q (.ref l) (upd H l (.tup ys))
theorem log_small {n : Nat} (h : n < 10 ^ 40) : n.log2 < 1920 := by
  by_cases h0 : n = 0
  · subst h0
    decide
  · rw [Nat.log2_lt h0]
    exact Nat.lt_of_lt_of_le h (by decide +kernel)
def tJoined (ts : List TE) : TE := fun σ H Q => tJs ts Str.empty σ H fun out H1 => Q (.str out) H1
theorem pe_joined2 {X : Cx} {v1 v2 : Expr} {rest : List Expr} {ts : List TE} {pos : Pos} (h : PJ X (v1 :: v2 :: rest) ts) : PE X (.JoinedStr (v1 :: v2 :: rest) pos) (tJoined ts) := pe_joined h
def KJ (x : V) (acc : Str) (ts : List TE) (σ : L2.St) (H : Hp) (Q : Str → Hp → Prop) : Prop := ∃ y : Str, x = .str y ∧ (acc ++ y).length ≤ sizeLine ∧ tJs ts (acc ++ y) σ H Q
def KF (x : V) (H : Hp) (Q : VK) : Prop := (∃ y : Str, x = .str y ∧ y.length ≤ sizeLine ∧ Q (.str y) H) ∨ ∃ i : Int, x = .int i ∧ i.natAbs.log2 < 1920 ∧ Q (.str (toString i)) H
section
variable {K : PySem.W.Frag} {σ : L2.St} {H : Hp} {Q : VK} {QS : L2.St → Hp → Prop} {QJ : Str → Hp → Prop} {te : TE} {ts : List TE} {v : V} {g : TG}
theorem g_tup {u : TGs} {a : Addr} {xs : List V} {n : Nat} (hs : SqT K H a xs) (hl : xs.length = n) (h : u xs σ H QS) : gTup K n u (.ref a) σ H QS := ⟨a, xs, rfl, hs, hl, h⟩
theorem g_cons {u : TGs} {r : List V} (h : g v σ H fun σ' H' => u r σ' H' QS) : gCons g u (v :: r) σ H QS := ⟨v, r, rfl, h⟩
theorem g_nil (h : QS σ H) : gNil [] σ H QS := ⟨rfl, h⟩
theorem b_strI {i : Int} (hz : i.natAbs < 10 ^ 40) (h : Q (.str (toString i)) H) : rStrI [.int i] H Q := ⟨i, rfl, log_small hz, h⟩
theorem b_lst {a : Addr} {xs : List V} (hs : SqL K H a xs) (h : ∀ p H2, H p = none → Same H H2 → H2 p = some (.lst xs) → Q (.ref p) H2) : rLst K [.ref a] H Q := ⟨a, xs, rfl, .inl hs, new_same h⟩
theorem e_joined (h : tJs ts Str.empty σ H fun out H1 => Q (.str out) H1) : tJoined ts σ H Q := h
theorem j_nil {acc : Str} (h : QJ acc H) : tJs [] acc σ H QJ := h
theorem j_cons {acc : Str} (h : te σ H fun x H1 => KJ x acc ts σ H1 QJ) : tJs (te :: ts) acc σ H QJ := h
theorem k_j {acc y : Str} (hz : (acc ++ y).length ≤ sizeLine) (h : tJs ts (acc ++ y) σ H QJ) : KJ (.str y) acc ts σ H QJ := ⟨y, rfl, hz, h⟩
theorem e_fmt (h : te σ H fun x H1 => KF x H1 Q) : tFmt te σ H Q := h
theorem k_fS {y : Str} (hz : y.length ≤ sizeLine) (h : Q (.str y) H) : KF (.str y) H Q := .inl ⟨y, rfl, hz, h⟩
theorem k_fI {i : Int} (hz : i.natAbs < 10 ^ 40) (h : Q (.str (toString i)) H) : KF (.int i) H Q := .inr ⟨i, rfl, log_small hz, h⟩
end
/-! ### data of tuples -/
mutual
inductive Tp (H : Hp) : V → PyData → Prop
  | non : Tp H .non .none
  | bl (b : Bool) : Tp H (.bl b) (.bool b)
  | int (i : Int) : Tp H (.int i) (.int i)
  | str (x : Str) : Tp H (.str x) (.str x)
  | tup {a : Addr} {xs : List V} {ds : List PyData} : H a = some (.tup xs) → TpAll H xs ds → Tp H (.ref a) (.tuple ds)
inductive TpAll (H : Hp) : List V → List PyData → Prop
  | nil : TpAll H [] []
  | cons {v : V} {vs : List V} {d : PyData} {ds : List PyData} : Tp H v d → TpAll H vs ds → TpAll H (v :: vs) (d :: ds)
end
/-- the tuples stay -/
def TK (H H' : Hp) : Prop := ∀ a xs, H a = some (.tup xs) → H' a = some (.tup xs)
theorem TK.refl (H : Hp) : TK H H := fun _ _ e => e
theorem TK.trans {H H1 H2 : Hp} (a : TK H H1) (b : TK H1 H2) : TK H H2 := fun c xs e => b c xs (a c xs e)
theorem _root_.L2.Same.tk {H H' : Hp} (s : Same H H') : TK H H' := fun a xs e => s a _ e
theorem Chg.tk {l : Addr} {H H' : Hp} {ys : List V} (c : Chg l H H') (e : H l = some (.lst ys)) : TK H H' := fun a xs h => c.at h (ne_of h e (by intro z; cases z))
theorem Keep.tk {h : Addr} {H H' : Hp} {ys : List V} (c : Keep h H H') (e : H h = some (.lst ys)) : TK H H' := fun a xs q => c.at q (ne_of q e (by intro z; cases z))
theorem HandAt.keep_tk {h d : Addr} {H H' : Hp} (x : HandAt H h d) (c : Keep h H H') : TK H H' := by
  obtain ⟨n, ds, h1, _, _⟩ := x
  exact c.tk h1
theorem HandAt.chg_tk {h d : Addr} {H H' : Hp} (x : HandAt H h d) (c : Chg h H H') : TK H H' := x.keep_tk c.keep
mutual
theorem Tp.tk {H H' : Hp} (k : TK H H') : ∀ {d : PyData} {v : V}, Tp H v d → Tp H' v d
  | .none, _, h => by cases h; exact .non
  | .bool b, _, h => by cases h; exact .bl b
  | .int i, _, h => by cases h; exact .int i
  | .str x, _, h => by cases h; exact .str x
  | .tuple ds, _, h => by
    cases h with
    | tup e r => exact .tup (k _ _ e) (TpAll.tk k r)
  | .list _, _, h => by cases h
  | .dict _, _, h => by cases h
theorem TpAll.tk {H H' : Hp} (k : TK H H') : ∀ {ds : List PyData} {vs : List V}, TpAll H vs ds → TpAll H' vs ds
  | [], _, h => by cases h; exact .nil
  | d :: ds, _, h => by
    cases h with
    | cons h1 h2 => exact .cons (Tp.tk k h1) (TpAll.tk k h2)
end
mutual
theorem Tp.dp {K : PySem.W.Frag} {H : Hp} : ∀ {d : PyData} {v : V}, Tp H v d → Dp K H v d
  | .none, _, h => by cases h; exact .non
  | .bool b, _, h => by cases h; exact .bl b
  | .int i, _, h => by cases h; exact .int i
  | .str x, _, h => by cases h; exact .str x
  | .tuple ds, _, h => by
    cases h with
    | tup e r => exact .tup (tup_of e) (TpAll.dp r)
  | .list _, _, h => by cases h
  | .dict _, _, h => by cases h
theorem TpAll.dp {K : PySem.W.Frag} {H : Hp} : ∀ {ds : List PyData} {vs : List V}, TpAll H vs ds → DpAll K H vs ds
  | [], _, h => by cases h; exact .nil
  | d :: ds, _, h => by
    cases h with
    | cons h1 h2 => exact .cons (Tp.dp h1) (TpAll.dp h2)
end
theorem TpAll.get {H : Hp} : ∀ {vs : List V} {ds : List PyData} {i : Nat} {d : PyData}, TpAll H vs ds → ds[i]? = some d → ∃ v, vs[i]? = some v ∧ Tp H v d
  | _, _, _, _, .nil, h => by cases h
  | _, _, 0, _, .cons h1 _, h => by
    cases h
    exact ⟨_, rfl, h1⟩
  | _, _, i + 1, _, .cons _ h2, h => by
    obtain ⟨v, e, q⟩ := TpAll.get h2 (i := i) h
    exact ⟨v, e, q⟩
theorem TpAll.length {H : Hp} : ∀ {vs : List V} {ds : List PyData}, TpAll H vs ds → vs.length = ds.length
  | _, _, .nil => rfl
  | _, _, .cons _ h => by rw [List.length_cons, List.length_cons, h.length]
/-- a def that is never called so -/
theorem cal_never {P : Program} {w : World} {K : PySem.W.Frag} {mg : Str → Option Value} {base : Heap} {x : Str} {st : Stmt} {ps : List Str} {k : Nat} {sp : Sp} (F : DefOk K mg x st)
    (hb : ∀ f fd, FunD K x x (defArgs st) (defBody st) (defScope st) [] [] f fd → Binds K fd ps []) (no : ∀ vs H Q E, ¬ sp vs H Q E) : C8.Cal P w K mg base k x sp [] := by
  obtain ⟨f, fd, F, hm⟩ := F.ex
  exact ⟨f, fd, ps, [], ⟨fun vs H Q E h => absurd h (no _ _ _ _), fun A outer s H args us vs Q E hr he hb hv h => absurd h (no _ _ _ _)⟩, hm, F.kp, hb f fd F, .nil⟩
end Wy
open Wy
namespace W6
open PySem PySem.Spec PyProof.Rows L2 Wy
theorem uu {a c : Nat} (h : a + 64 < c) : a + 1 < c := by omega
/-! ### a table of the top: texts to tuples -/
def rKd (K : PySem.W.Frag) (d : Addr) : R2 := fun x y H Q => ∃ (z : Str) (u0 : Value) (v0 : V), x = .ref d ∧ y = .str z ∧ PySem.W.nsIn K d z = some (some u0) ∧ RelV v0 u0 ∧ Q v0 H
theorem pe_kd {X : Cx} {d : Addr} {es : Array DictEntry} {n : Nat} {o i : Expr} {pos : Pos} {td ty : TE} (D : KDict X.K X.w d es n) (ho : PE X o td) (hi : PE X i ty) (hs : NoSl i) : PE X (.Subscript o i pos) (tOp (rKd X.K d) td ty) := by
  refine ⟨fun pins s σ H Q I h => ?_⟩
  refine subD_of PySem.F.slot_dict_getitem.lookup hs (thn (ho.run pins s σ H _ I h) fun u s1 ⟨x, H1, I1, rx, q1⟩ => thn (hi.run pins s1 σ H1 _ I1 q1) fun iv s2 ⟨y, H2, I2, ry, q2⟩ => ?_)
  have q3 := q2
  obtain ⟨z, u0, v0, ex, ey, e, r, q⟩ := q2
  subst ex
  have ru : u = Value.ref d := rx
  subst ru
  exact ⟨kd_type D I2, op_item_kd D pins s2 σ H2 (.ref d) y _ iv Q I2 rfl ry q3⟩
def tupAt (K : PySem.W.Frag) (o : Option Obj) (vs : List V) : Bool := match o with
  | some ⟨.type c, none, .seq its _, _⟩ => decide (c = "tuple") && (decide (its.size ≤ sizeLine) && He.relAll vs its.toList)
  | _ => false
def keyB (K : PySem.W.Frag) (d : Addr) (z : Str) (vs : List V) : Bool := match PySem.W.nsIn K d z with
  | some (some (.ref t)) => tupAt K (K.lookup t) vs
  | _ => false
theorem tupAt_ok {K : PySem.W.Frag} {t : Addr} {vs : List V} (h : tupAt K (K.lookup t) vs = true) (H : Hp) : SqT K H t vs := by
  unfold tupAt at h
  split at h
  · rename_i c its n sl e
    obtain ⟨h1, h2⟩ := He.ba h
    obtain ⟨h3, h4⟩ := He.ba h2
    exact .inr ⟨_, its, n, e, congrArg Value.type (of_decide_eq_true h1), rfl, of_decide_eq_true h3, He.relAll_ok h4⟩
  · cases h
theorem keyB_ok {K : PySem.W.Frag} {d : Addr} {z : Str} {vs : List V} (h : keyB K d z vs = true) : ∃ t, PySem.W.nsIn K d z = some (some (.ref t)) ∧ ∀ H, SqT K H t vs := by
  unfold keyB at h
  split at h
  · rename_i t e
    exact ⟨t, e, fun H => tupAt_ok h H⟩
  · cases h
theorem o_kd {K : PySem.W.Frag} {H : Hp} {Q : VK} {d t : Addr} {z : Str} (e : PySem.W.nsIn K d z = some (some (.ref t))) (q : Q (.ref t) H) : rKd K d (.ref d) (.str z) H Q := ⟨z, _, .ref t, rfl, rfl, e, rfl, q⟩
def rTup (K : PySem.W.Frag) : List V → Hp → VK → Prop := fun xs H Q => ∃ p ys, xs = [.ref p] ∧ ((SqL K H p ys ∧ ∀ l, H l = none → Q (.ref l) (upd H l (.tup ys))) ∨ (SqT K H p ys ∧ Q (.ref p) H))
theorem call_tup2 {X : Cx} : CallR X (.type "tuple") (rTup X.K) := call_tuple_of
theorem b_tup {K : PySem.W.Frag} {H : Hp} {Q : VK} {a : Addr} {xs : List V} (hs : SqL K H a xs) (h : ∀ p H2, H p = none → Same H H2 → H2 p = some (.tup xs) → Q (.ref p) H2) : rTup K [.ref a] H Q := ⟨a, xs, rfl, .inl ⟨hs, new_same h⟩⟩
end W6
namespace WD
open PySem PySem.Spec PyProof.Rows L2 Wy
theorem uu {a c : Nat} (h : a + 64 < c) : a + 1 < c := by omega
/-! ### dicts of texts -/
def rLnD : List V → Hp → VK → Prop := fun xs H Q => ∃ a kvs, xs = [.ref a] ∧ H a = some (.dK kvs) ∧ Q (.int (kvs.length : Nat)) H
theorem call_lenD {X : Cx} : CallR X (.builtin "len") rLnD := by
  intro pins s σ H xs us Q I r h
  obtain ⟨p, kvs, rfl, hk, q⟩ := h
  obtain ⟨u, eu, rx⟩ := vals1 r
  subst eu
  obtain rfl : u = Value.ref p := rx
  exact d_len I (.inl hk) fun t s' I' => ⟨.int (kvs.length : Nat), H, I', ⟨t, rfl⟩, q⟩
section
variable {K : PySem.W.Frag} {σ : L2.St} {H : Hp} {Q : VK} {td ty tv : TE} {D : Ends}
def KD (x y : V) (H : Hp) (Q : VK) : Prop := ∃ a v, x = .ref a ∧ DGet H a y (some v) ∧ Q v H
def KP (v x y : V) (σ : L2.St) (H : Hp) (N : L2.St → Hp → Prop) : Prop := ∃ a H4, x = .ref a ∧ DPut H a y v H4 ∧ N σ H4
theorem e_dnew (h : ∀ p H2, H p = none → Same H H2 → H2 p = some (.dK []) → Q (.ref p) H2) : tDNewK σ H Q := new_same h
theorem e_dget (h : td σ H fun x H1 => ty σ H1 fun y H2 => KD x y H2 Q) : tDGet td ty σ H Q := h
theorem k_d {a : Addr} {kvs : List (Key × V)} {n : Str} {v : V} (e : H a = some (.dK kvs)) (g : valV kvs (.inr n) = some v) (h : Q v H) : KD (.ref a) (.str n) H Q :=
  ⟨a, v, rfl, g ▸ DGet.k (k := .inr n) e, h⟩
theorem s_dput (h : tv σ H fun v H1 => td σ H1 fun x H2 => ty σ H2 fun y H3 => KP v x y σ H3 D.nx) : sDPut td ty tv D σ H := h
theorem k_p {a : Addr} {kvs : List (Key × V)} {n : Str} {v : V} {N : L2.St → Hp → Prop} (e : H a = some (.dK kvs)) (hl : kvs.length < sizeLine) (h : ∀ H2, Chg a H H2 → H2 a = some (.dK (putK kvs (.inr n) v)) → N σ H2) :
    KP v (.ref a) (.str n) σ H N := ⟨a, _, rfl, DPut.k (k := .inr n) e hl, h _ chg_upd upd_same⟩
theorem b_lenD {a : Addr} {kvs : List (Key × V)} (e : H a = some (.dK kvs)) (h : Q (.int (kvs.length : Nat)) H) : rLnD [.ref a] H Q := ⟨a, kvs, rfl, e, h⟩
theorem b_lstD {a : Addr} {kvs : List (Key × V)} (e : H a = some (.dK kvs)) (h : ∀ p H2, H p = none → Same H H2 → H2 p = some (.lst (kvs.map fun kv => kV kv.1)) → Q (.ref p) H2) : rListD [.ref a] H Q := ⟨a, kvs, rfl, e, new_same h⟩
def rTup (K : PySem.W.Frag) : List V → Hp → VK → Prop := fun xs H Q => ∃ p ys, xs = [.ref p] ∧ ((SqL K H p ys ∧ ∀ l, H l = none → Q (.ref l) (upd H l (.tup ys))) ∨ (SqT K H p ys ∧ Q (.ref p) H))
theorem call_tup2 {X : Cx} : CallR X (.type "tuple") (rTup X.K) := call_tuple_of
theorem b_tup {a : Addr} {xs : List V} (hs : SqL K H a xs) (h : ∀ p H2, H p = none → Same H H2 → H2 p = some (.tup xs) → Q (.ref p) H2) : rTup K [.ref a] H Q := ⟨a, xs, rfl, .inl ⟨hs, new_same h⟩⟩
theorem m_idx {a : Addr} {ys : List V} {y : V} {j : Nat} {z : V} (hs : SqL K H a ys) (f1 : flatV y = true) (f2 : ys.all flatV = true) (g : ys[j]? = some z) (e : eqV z y = true)
    (no : ∀ (m : Nat) (z' : V), m < j → ys[m]? = some z' → eqV z' y = false) (h : Q (.int (j : Nat)) H) : rIndex K (.ref a) [y] H Q := ⟨a, ys, y, j, z, rfl, rfl, hs, f1, f2, g, e, no, h⟩
end
/-- the names with their values, as far as there are values -/
def kv (ns : List Str) (vs : List V) : List (Key × V) := (ns.zip vs).map fun p => (.inr p.1, p.2)
theorem kv_len {ns : List Str} {vs : List V} (h : vs.length ≤ ns.length) : (kv ns vs).length = vs.length := by
  unfold kv
  rw [List.length_map, List.length_zip]
  omega
theorem kv_get : ∀ {ns : List Str} {vs : List V} {j : Nat} {n : Str} {v : V}, ns.Nodup → ns[j]? = some n → vs[j]? = some v → valV (kv ns vs) (.inr n) = some v
  | [], _, _, _, _, _, h, _ => by cases h
  | _ :: _, [], _, _, _, _, _, h => by cases h
  | m :: ns, u :: vs, 0, n, v, _, h1, h2 => by
    cases h1
    cases h2
    exact valV_pos (p := (Sum.inr m, u)) rfl
  | m :: ns, u :: vs, j + 1, n, v, hd, h1, h2 => by
    have h1 : ns[j]? = some n := h1
    have h2 : vs[j]? = some v := h2
    have hd := List.nodup_cons.mp hd
    have ne : ¬ (Sum.inr m : Key) = Sum.inr n := fun e => hd.1 (by
      have e2 : m = n := Sum.inr.inj e
      rw [e2]
      exact List.mem_of_getElem? h1)
    exact (valV_neg (p := (Sum.inr m, u)) ne).trans (kv_get hd.2 h1 h2)
theorem zip_fst : ∀ (ns : List Str) (vs : List V), (ns.zip vs).map Prod.fst = ns.take vs.length
  | [], _ => by simp
  | _ :: _, [] => rfl
  | n :: ns, _ :: vs => congrArg (n :: ·) (zip_fst ns vs)
theorem zip_cut : ∀ (ns : List Str) (vs : List V), ns.zip vs = (ns.take vs.length).zip vs
  | [], _ => by simp
  | _ :: _, [] => rfl
  | n :: ns, v :: vs => congrArg ((n, v) :: ·) (zip_cut ns vs)
theorem kv_any {ns : List Str} {vs : List V} {n : Str} : ((kv ns vs).any fun p => decide (p.1 = (.inr n : Key))) = true ↔ n ∈ (ns.take vs.length) := by
  unfold kv
  rw [List.any_map, List.any_eq_true]
  constructor
  · rintro ⟨⟨a, b⟩, hm, h⟩
    have h : (Sum.inr a : Key) = Sum.inr n := of_decide_eq_true h
    have e : a = n := Sum.inr.inj h
    subst e
    have : a ∈ (ns.zip vs).map Prod.fst := List.mem_map.mpr ⟨_, hm, rfl⟩
    rw [zip_fst] at this
    exact this
  · intro h
    have : n ∈ (ns.zip vs).map Prod.fst := by
      rw [zip_fst]
      exact h
    obtain ⟨⟨a, b⟩, hm, e⟩ := List.mem_map.mp this
    exact ⟨(a, b), hm, decide_eq_true (by rw [← e])⟩
theorem kv_new {ns : List Str} {vs : List V} {n : Str} {v : V} (hd : ns.Nodup) (h : ns[vs.length]? = some n) : putK (kv ns vs) (.inr n) v = kv ns (vs ++ [v]) := by
  have no : n ∉ ns.take vs.length := by
    intro hm
    obtain ⟨i, hi, e⟩ := List.getElem_of_mem hm
    obtain ⟨hl, e2⟩ := List.getElem?_eq_some_iff.mp h
    rw [List.length_take] at hi
    rw [List.getElem_take] at e
    have := (List.getElem_inj hd).mp (e.trans e2.symm)
    omega
  unfold putK
  rw [if_neg (fun e => no (kv_any.mp e))]
  unfold kv
  obtain ⟨hl, e2⟩ := List.getElem?_eq_some_iff.mp h
  have e3 : ns = ns.take vs.length ++ n :: ns.drop (vs.length + 1) := by
    rw [← e2, List.getElem_cons_drop, List.take_append_drop]
  have e4 : ns.zip vs = (ns.take vs.length).zip vs := zip_cut ns vs
  have l1 : (ns.take vs.length).length = vs.length := by rw [List.length_take]; omega
  have e5 : ns.zip (vs ++ [v]) = (ns.take vs.length).zip vs ++ [(n, v)] := by
    conv => lhs; rw [e3]
    rw [List.zip_append l1]
    simp
  rw [e4, e5, List.map_append]
  rfl
theorem kv_set : ∀ {ns : List Str} {vs : List V} {j : Nat} {n : Str} {v : V}, ns.Nodup → ns[j]? = some n → j < vs.length → (kv ns vs).map (fun p => if p.1 = (.inr n : Key) then (p.1, v) else p) = kv ns (vs.set j v)
  | [], _, _, _, _, _, h, _ => by cases h
  | _ :: _, [], _, _, _, _, _, h => absurd h (Nat.not_lt_zero _)
  | m :: ns, u :: vs, 0, n, v, hd, h1, h2 => by
    cases h1
    have hd := List.nodup_cons.mp hd
    show (if (Sum.inr m : Key) = Sum.inr m then _ else _) :: _ = (_ :: _ : List (Key × V))
    rw [if_pos rfl]
    refine congrArg (_ :: ·) ?_
    refine (List.map_congr_left fun p hp => ?_).trans (List.map_id _)
    obtain ⟨⟨a, b⟩, hm, e⟩ := List.mem_map.mp hp
    rw [if_neg ?_]
    · rfl
    · rw [← e]
      intro e2
      exact hd.1 (Sum.inr.inj e2 ▸ (List.of_mem_zip hm).1)
  | m :: ns, u :: vs, j + 1, n, v, hd, h1, h2 => by
    have h1 : ns[j]? = some n := h1
    have hd := List.nodup_cons.mp hd
    have ne : ¬ (Sum.inr m : Key) = Sum.inr n := fun e => hd.1 (by
      have e2 : m = n := Sum.inr.inj e
      rw [e2]
      exact List.mem_of_getElem? h1)
    show (if (Sum.inr m : Key) = Sum.inr n then _ else _) :: _ = (_ :: _ : List (Key × V))
    rw [if_neg ne]
    exact congrArg (_ :: ·) (kv_set hd.2 h1 (Nat.lt_of_succ_lt_succ h2))
theorem kv_put {ns : List Str} {vs : List V} {j : Nat} {n : Str} {v : V} (hd : ns.Nodup) (h : ns[j]? = some n) (hj : j < vs.length) : putK (kv ns vs) (.inr n) v = kv ns (vs.set j v) := by
  obtain ⟨hl, e2⟩ := List.getElem?_eq_some_iff.mp h
  have hm : n ∈ ns.take vs.length := by
    rw [← e2]
    exact List.mem_take_iff_getElem.mpr ⟨j, by omega, rfl⟩
  unfold putK
  rw [if_pos (kv_any.mpr hm)]
  exact kv_set hd h hj
theorem kv_keys {ns : List Str} {vs : List V} (h : vs.length = ns.length) : (kv ns vs).map (fun p => kV p.1) = ns.map V.str := by
  unfold kv
  rw [List.map_map]
  have : ((fun p : Key × V => kV p.1) ∘ fun p : Str × V => ((.inr p.1 : Key), p.2)) = V.str ∘ Prod.fst := rfl
  rw [this, ← List.map_map, List.map_fst_zip (by omega)]
/-! ### the questions and their answers -/
inductive X9 where
  | num (n : Int)
  | var (k : Nat) (p : Int)
  | item (j : Nat) (i : X9) (p : Int)
abbrev nm (ns : List Str) (k : Nat) : Str := ns.getD k ""
def X9.d (ns : List Str) : X9 → PyData
  | .num n => .tuple [.str "num", .int n]
  | .var k p => .tuple [.str "var", .str (nm ns k), .int p]
  | .item j i p => .tuple [.str "item", .str (nm ns (4 + j)), i.d ns, .int p]
def X9.plain : X9 → Prop
  | .num _ => True
  | .var k _ => k < 4
  | .item _ _ _ => False
def X9.good : X9 → Prop
  | .num _ => True
  | .var k _ => k < 4
  | .item j i _ => j < 2 ∧ i.plain
theorem X9.plain.good {e : X9} (h : e.plain) : e.good := by
  cases e with
  | num _ => exact True.intro
  | var _ _ => exact h
  | item _ _ _ => exact h.elim
def X9.dep : X9 → Nat
  | .item _ _ _ => 1
  | _ => 0
theorem X9.plain.dep {e : X9} (h : e.plain) : e.dep = 0 := by
  cases e with
  | num _ => rfl
  | var _ _ => rfl
  | item _ _ _ => exact h.elim
theorem X9.dep_le (e : X9) : e.dep < 2 := by
  cases e <;> simp [X9.dep]
def X9.ev (is : List Int) (ls : List (List Int)) : X9 → Option Int
  | .num n => some n
  | .var k p => some (is.getD k 0 + p)
  | .item j i p => match i.ev is ls with
    | none => none
    | some a => if 0 ≤ a ∧ a < (ls.getD j []).length then some ((ls.getD j []).getD a.toNat 0 + p) else none
def oI : Option Int → V
  | none => .non
  | some i => .int i
def oB : Option Bool → V
  | none => .non
  | some b => .bl b
theorem X9.plain.ev {e : X9} (h : e.plain) (is : List Int) (ls : List (List Int)) : ∃ i, e.ev is ls = some i := by
  cases e with
  | num n => exact ⟨n, rfl⟩
  | var k p => exact ⟨_, rfl⟩
  | item _ _ _ => exact h.elim
abbrev SG : List Str := ["<", "<=", ">", ">=", "==", "!="]
def cmpB : Nat → Int → Int → Bool
  | 0, a, b => decide (a < b)
  | 1, a, b => decide (a ≤ b)
  | 2, a, b => decide (a > b)
  | 3, a, b => decide (a ≥ b)
  | 4, a, b => decide (a = b)
  | _, a, b => !decide (a = b)
inductive Cn where
  | cmp (k : Nat) (l r : X9)
  | no (c : Cn)
  | jn (o : Bool) (cs : List Cn)
abbrev jw (o : Bool) : Str := if o then "or" else "and"
mutual
def Cn.d (ns : List Str) : Cn → PyData
  | .cmp k l r => .tuple [.str "cmp", .str (SG.getD k ""), l.d ns, r.d ns]
  | .no c => .tuple [.str "not", c.d ns]
  | .jn o cs => .tuple [.str (jw o), .tuple (Cn.ds ns cs)]
def Cn.ds (ns : List Str) : List Cn → List PyData
  | [] => []
  | c :: cs => c.d ns :: Cn.ds ns cs
end
mutual
def Cn.ok : Nat → Cn → Prop
  | _, .cmp k l r => k < 6 ∧ l.good ∧ r.good
  | 0, .no _ => False
  | n + 1, .no c => c.ok n
  | 0, .jn _ _ => False
  | n + 1, .jn _ cs => Cn.oks n cs
def Cn.oks : Nat → List Cn → Prop
  | _, [] => True
  | n, c :: cs => c.ok n ∧ Cn.oks n cs
end
def cmpO (k : Nat) : Option Int → Option Int → Option Bool
  | some a, some b => some (cmpB k a b)
  | _, _ => none
mutual
def Cn.ev (is : List Int) (ls : List (List Int)) : Cn → Option Bool
  | .cmp k l r => cmpO k (l.ev is ls) (r.ev is ls)
  | .no c => (c.ev is ls).map fun b => !b
  | .jn o cs => Cn.evs is ls o cs
def Cn.evs (is : List Int) (ls : List (List Int)) (o : Bool) : List Cn → Option Bool
  | [] => some (!o)
  | c :: cs => match c.ev is ls with
    | none => none
    | some b => if b = o then some b else Cn.evs is ls o cs
end
theorem Cn.ds_get {ns : List Str} : ∀ {cs : List Cn} {i : Nat} {c : Cn}, cs[i]? = some c → (Cn.ds ns cs)[i]? = some (c.d ns)
  | [], _, _, h => by cases h
  | c :: cs, 0, _, h => by
    cases h
    rfl
  | c :: cs, i + 1, _, h => by
    have h : cs[i]? = some _ := h
    exact Cn.ds_get (cs := cs) (i := i) h
theorem Cn.ds_len {ns : List Str} : ∀ {cs : List Cn}, (Cn.ds ns cs).length = cs.length
  | [] => rfl
  | c :: cs => congrArg (· + 1) Cn.ds_len
theorem Cn.ds_snoc {ns : List Str} {c : Cn} : ∀ {cs : List Cn}, Cn.ds ns (cs ++ [c]) = Cn.ds ns cs ++ [c.d ns]
  | [] => rfl
  | _ :: _ => congrArg (_ :: ·) Cn.ds_snoc
theorem Cn.oks_get {n : Nat} : ∀ {cs : List Cn} {i : Nat} {c : Cn}, Cn.oks n cs → cs[i]? = some c → c.ok n
  | [], _, _, _, h => by cases h
  | c :: cs, 0, _, g, h => by
    cases h
    exact g.1
  | c :: cs, i + 1, _, g, h => by
    have h : cs[i]? = some _ := h
    exact Cn.oks_get g.2 h
theorem Cn.oks_snoc {n : Nat} {c : Cn} : ∀ {cs : List Cn}, Cn.oks n cs → c.ok n → Cn.oks n (cs ++ [c])
  | [], _, h => ⟨h, True.intro⟩
  | _ :: _, g, h => ⟨g.1, Cn.oks_snoc g.2 h⟩
theorem Cn.evs_drop {is : List Int} {ls : List (List Int)} {o : Bool} {cs : List Cn} {i : Nat} {c : Cn} (h : cs[i]? = some c) :
    Cn.evs is ls o (cs.drop i) = match c.ev is ls with | none => none | some b => if b = o then some b else Cn.evs is ls o (cs.drop (i + 1)) := by
  obtain ⟨hl, e⟩ := List.getElem?_eq_some_iff.mp h
  rw [List.drop_eq_getElem_cons hl, e]
  rfl
/-! ### the parts of the data -/
theorem tp4 {H : Hp} {v : V} {d1 d2 d3 d4 : PyData} (h : Tp H v (.tuple [d1, d2, d3, d4])) : ∃ a v1 v2 v3 v4, v = .ref a ∧ H a = some (.tup [v1, v2, v3, v4]) ∧ Tp H v1 d1 ∧ Tp H v2 d2 ∧ Tp H v3 d3 ∧ Tp H v4 d4 := by
  cases h with
  | tup e r =>
    cases r with | cons h1 r => cases r with | cons h2 r => cases r with | cons h3 r => cases r with | cons h4 r =>
      cases r
      exact ⟨_, _, _, _, _, rfl, e, h1, h2, h3, h4⟩
theorem tp3 {H : Hp} {v : V} {d1 d2 d3 : PyData} (h : Tp H v (.tuple [d1, d2, d3])) : ∃ a v1 v2 v3, v = .ref a ∧ H a = some (.tup [v1, v2, v3]) ∧ Tp H v1 d1 ∧ Tp H v2 d2 ∧ Tp H v3 d3 := by
  cases h with
  | tup e r =>
    cases r with | cons h1 r => cases r with | cons h2 r => cases r with | cons h3 r =>
      cases r
      exact ⟨_, _, _, _, rfl, e, h1, h2, h3⟩
theorem tp2 {H : Hp} {v : V} {d1 d2 : PyData} (h : Tp H v (.tuple [d1, d2])) : ∃ a v1 v2, v = .ref a ∧ H a = some (.tup [v1, v2]) ∧ Tp H v1 d1 ∧ Tp H v2 d2 := by
  cases h with
  | tup e r =>
    cases r with | cons h1 r => cases r with | cons h2 r =>
      cases r
      exact ⟨_, _, _, rfl, e, h1, h2⟩
theorem tpL {H : Hp} {v : V} {ds : List PyData} (h : Tp H v (.tuple ds)) : ∃ a vs, v = .ref a ∧ H a = some (.tup vs) ∧ TpAll H vs ds := by
  cases h with
  | tup e r => exact ⟨_, _, rfl, e, r⟩
theorem tp_str {H : Hp} {v : V} {x : Str} (h : Tp H v (.str x)) : v = .str x := by
  cases h
  rfl
theorem tp_int {H : Hp} {v : V} {x : Int} (h : Tp H v (.int x)) : v = .int x := by
  cases h
  rfl
theorem tpSnoc {H : Hp} {v : V} {d : PyData} : ∀ {vs : List V} {ds : List PyData}, TpAll H vs ds → Tp H v d → TpAll H (vs ++ [v]) (ds ++ [d])
  | _, _, .nil, h => .cons h .nil
  | _, _, .cons h1 h2, h => .cons h1 (tpSnoc h2 h)
/-! ### the variables -/
def CellAt (H : Hp) (is : List Int) (ls : List (List Int)) (j : Nat) (v : V) : Prop :=
  (∃ x, is[j]? = some x ∧ v = .int x) ∨ ∃ a xs, 4 ≤ j ∧ ls[j - 4]? = some xs ∧ v = .ref a ∧ H a = some (.lst (xs.map V.int))
theorem CellAt.same {H H' : Hp} {is : List Int} {ls : List (List Int)} {j : Nat} {v : V} (s : Same H H') (c : CellAt H is ls j v) : CellAt H' is ls j v := by
  rcases c with c | ⟨a, xs, h1, h2, h3, h4⟩
  · exact .inl c
  · exact .inr ⟨a, xs, h1, h2, h3, s _ _ h4⟩
def EnvAt (H : Hp) (p : Addr) (ns : List Str) (is : List Int) (ls : List (List Int)) : Prop :=
  is.length = 4 ∧ ls.length = 2 ∧ ns.length = 6 ∧ ns.Nodup ∧ ∃ vs : List V, vs.length = 6 ∧ H p = some (.dK (kv ns vs)) ∧ ∀ j v, vs[j]? = some v → CellAt H is ls j v
theorem EnvAt.same {H H' : Hp} {p : Addr} {ns : List Str} {is : List Int} {ls : List (List Int)} (s : Same H H') (e : EnvAt H p ns is ls) : EnvAt H' p ns is ls := by
  obtain ⟨h1, h2, h3, h4, vs, h5, h6, h7⟩ := e
  exact ⟨h1, h2, h3, h4, vs, h5, s _ _ h6, fun j v g => (h7 j v g).same s⟩
theorem nm_at {ns : List Str} {k : Nat} (h : k < ns.length) : ns[k]? = some (nm ns k) := by
  unfold nm
  rw [List.getD_eq_getElem?_getD, List.getElem?_eq_getElem h]
  rfl
/-- a number out of the variables -/
theorem EnvAt.int {H : Hp} {p : Addr} {ns : List Str} {is : List Int} {ls : List (List Int)} (e : EnvAt H p ns is ls) {k : Nat} (hk : k < 4) : ∃ kvs, H p = some (.dK kvs) ∧ valV kvs (.inr (nm ns k)) = some (.int (is.getD k 0)) := by
  obtain ⟨h1, h2, h3, h4, vs, h5, h6, h7⟩ := e
  have g : vs[k]? = some vs[k] := List.getElem?_eq_getElem (by omega)
  refine ⟨_, h6, ?_⟩
  have e := kv_get h4 (nm_at (by omega)) g
  rw [e]
  rcases h7 k _ g with ⟨x, c1, c2⟩ | ⟨a, xs, c1, _⟩
  · rw [c2, List.getD_eq_getElem?_getD, c1]
    rfl
  · omega
theorem EnvAt.lst {H : Hp} {p : Addr} {ns : List Str} {is : List Int} {ls : List (List Int)} (e : EnvAt H p ns is ls) {j : Nat} (hj : j < 2) :
    ∃ kvs a, H p = some (.dK kvs) ∧ valV kvs (.inr (nm ns (4 + j))) = some (.ref a) ∧ H a = some (.lst ((ls.getD j []).map V.int)) := by
  obtain ⟨h1, h2, h3, h4, vs, h5, h6, h7⟩ := e
  have g : vs[4 + j]? = some vs[4 + j] := List.getElem?_eq_getElem (by omega)
  have e := kv_get h4 (nm_at (by omega)) g
  rcases h7 _ _ g with ⟨x, c1, c2⟩ | ⟨a, xs, c1, c2, c3, c4⟩
  · have := (List.getElem?_eq_some_iff.mp c1).1
    omega
  · refine ⟨_, a, h6, by rw [e, c3], ?_⟩
    have e2 : ls.getD j [] = xs := by
      rw [List.getD_eq_getElem?_getD]
      rw [show 4 + j - 4 = j by omega] at c2
      rw [c2]
      rfl
    rw [e2]
    exact c4
/-! ### the names -/
abbrev PADS : List Str := ["", "u", "zzzzzzzzzzz", "uz"]
def let9 (k : Nat) : Str := ⟨#[("abcdxy" : Str).cps.toList.getD k 0]⟩
def namesOf (k : Nat) : List Str := (PADS.map fun p => let9 k ++ p) ++ PADS.map fun p => p ++ let9 k
theorem names_apart : ∀ i, i < 6 → ∀ j, j < 6 → i ≠ j → ∀ x ∈ namesOf i, ∀ y ∈ namesOf j, x ≠ y := by decide +kernel
def NamesOk (ns : List Str) : Prop := ∀ i n, ns[i]? = some n → n ∈ namesOf i
theorem names_nodup {ns : List Str} (h : NamesOk ns) (hl : ns.length ≤ 6) : ns.Nodup := by
  rw [List.nodup_iff_pairwise_ne, List.pairwise_iff_getElem]
  intro i j hi hj lt
  exact names_apart i (by omega) j (by omega) (by omega) _ (h i _ (List.getElem?_eq_getElem hi)) _ (h j _ (List.getElem?_eq_getElem hj))
end WD
/-! WN: more rules and steps. -/
namespace WN
open PySem PySem.Spec PyProof.Rows L2 Wy
theorem sm {H H' : Hp} {a : Addr} {o : HO} (s : Same H H') (h : H a = some o) : H' a = some o := s _ _ h
theorem cm {l : Addr} {H H' : Hp} {a : Addr} {o : HO} (c : Chg l H H') (n : a ≠ l) (h : H a = some o) : H' a = some o := c.at h n
theorem ne_new {H : Hp} {a l : Addr} {o : HO} (n : H l = none) (h : H a = some o) : a ≠ l := ne_of_none h n
theorem iteTT {b : Bool} {A B : Prop} (e : b = true) (h : A) : if b = true then A else B := by
  rw [if_pos e]
  exact h
theorem iteFF {b : Bool} {A B : Prop} (e : b = false) (h : B) : if b = true then A else B := by
  rw [if_neg (by rw [e]; exact Bool.false_ne_true)]
  exact h
theorem iteB {b : Bool} {A B : Prop} (h1 : b = true → A) (h2 : b = false → B) : if b = true then A else B := by
  cases b with
  | true => exact iteTT rfl (h1 rfl)
  | false => exact iteFF rfl (h2 rfl)
/-- a decided question -/
theorem iteD {p : Prop} [Decidable p] {A B : Prop} (h1 : p → A) (h2 : ¬ p → B) : if decide p = true then A else B := ite2 (fun e => h1 (of_decide_eq_true e)) fun e => h2 fun x => e (decide_eq_true x)
theorem iteND {p : Prop} [Decidable p] {A B : Prop} (h1 : ¬ p → A) (h2 : p → B) : if (!decide p) = true then A else B := by
  by_cases h : p
  · exact iteFF (by rw [decide_eq_true h]; rfl) (h2 h)
  · exact iteTT (by rw [decide_eq_false h]; rfl) (h1 h)
theorem nRN (a : Addr) : decide (V.ref a = V.non) = false := decide_eq_false (fun e => nomatch e)
theorem nIN (a : Int) : decide (V.int a = V.non) = false := decide_eq_false (fun e => nomatch e)
theorem nSN (a : Str) : decide (V.str a = V.non) = false := decide_eq_false (fun e => nomatch e)
theorem nBN (a : Bool) : decide (V.bl a = V.non) = false := decide_eq_false (fun e => nomatch e)
theorem nNRN (a : Addr) : (!decide (V.ref a = V.non)) = true := by rw [nRN]; rfl
theorem nNIN (a : Int) : (!decide (V.int a = V.non)) = true := by rw [nIN]; rfl
theorem nNSN (a : Str) : (!decide (V.str a = V.non)) = true := by rw [nSN]; rfl
theorem nNBN (a : Bool) : (!decide (V.bl a = V.non)) = true := by rw [nBN]; rfl
theorem dI (a b : Int) : decide (V.int a = V.int b) = decide (a = b) := by
  by_cases h : a = b
  · subst h
    rw [decide_eq_true rfl, decide_eq_true rfl]
  · rw [decide_eq_false h, decide_eq_false (fun e => h (V.int.inj e))]
theorem iteI {i j : Int} {A B : Prop} (h1 : i = j → A) (h2 : ¬ i = j → B) : if decide (V.int i = V.int j) = true then A else B := by
  rw [dI]
  exact iteD h1 h2
theorem iteNI {i j : Int} {A B : Prop} (h1 : ¬ i = j → A) (h2 : i = j → B) : if (!decide (V.int i = V.int j)) = true then A else B := by
  rw [dI]
  exact iteND h1 h2
theorem free_of {H H' : Hp} {a : Addr} (n : H' a = none) (s : Same H H') : H a = none := s.free n
theorem dB (a b : Bool) : decide (V.bl a = V.bl b) = decide (a = b) := by cases a <;> cases b <;> rfl
section
variable {X : Cx}
def rAll2 (K : PySem.W.Frag) : List V → Hp → VK → Prop := rAll K
theorem call_all2 (hc : X.calm = true) : CallR X (.builtin "all") (rAll2 X.K) := cr_all hc
def rSum2 (K : PySem.W.Frag) : List V → Hp → VK → Prop := rSum K
theorem call_sum2 (hc : X.calm = true) : CallR X (.builtin "sum") (rSum2 X.K) := cr_sum hc
def rMx2 (_ : PySem.W.Frag) : List V → Hp → VK → Prop := fun xs H Q => ∃ i j, xs = [.int i, .int j] ∧ Q (.int (if j > i then j else i)) H
theorem call_mx2 (hc : X.calm = true) : CallR X (.builtin "max") (rMx2 X.K) := call_max2 hc
def rMn2 (_ : PySem.W.Frag) : List V → Hp → VK → Prop := fun xs H Q => ∃ i j, xs = [.int i, .int j] ∧ Q (.int (if j < i then j else i)) H
theorem call_mn2 (hc : X.calm = true) : CallR X (.builtin "min") (rMn2 X.K) := call_min2 hc
def rIsi2 (K : PySem.W.Frag) : List V → Hp → VK → Prop := fun xs H Q => rIsi K xs H Q ∨ rIsiT K xs H Q
theorem call_isi2 : CallR X (.builtin "isinstance") (rIsi2 X.K) := Wy.CallR.or call_isi call_isiT
/-- a call of a built-in that wants calm -/
theorem pe_callC {id : String} {x : Str} {e : Expr} {es : List Expr} {p pos : Pos} {t : TA} {r : PySem.W.Frag → List V → Hp → VK → Prop} (hc : ∀ X : Cx, X.calm = true → CallR X (.builtin id) (r X.K)) (hg : Gl X x) (hm : X.mg x = none) (hv : bootBuiltins x = some (.builtin id)) (ha : PA X (e :: es) t) (hcalm : X.calm = true := by rfl) (hn : x ≠ "__name__" := by decide) (hdb : (x == ("__debug__" : Str)) = false := by decide)
    (he : starEach (e :: es) X.env = (false, eval e X.env) :: starEach es X.env := by rfl) (hpl : (backTo pos (starEach es X.env)).any (·.1) = false := by rfl) : PE X (.Call (.Name x p) (e :: es) [] pos) (tCB (r X.K) t) :=
  pe_callB (hc X hcalm) hg hm hv ha hn hdb he hpl
theorem cc_all (X : Cx) (h : X.calm = true) : CallR X (.builtin "all") (rAll2 X.K) := call_all2 h
theorem cc_sum (X : Cx) (h : X.calm = true) : CallR X (.builtin "sum") (rSum2 X.K) := call_sum2 h
theorem cc_max (X : Cx) (h : X.calm = true) : CallR X (.builtin "max") (rMx2 X.K) := call_mx2 h
theorem cc_min (X : Cx) (h : X.calm = true) : CallR X (.builtin "min") (rMn2 X.K) := call_mn2 h
/-- repr of data -/
def rRepr (K : PySem.W.Frag) : List V → Hp → VK → Prop := fun xs H Q => ∃ (a : Addr) (d : PyData), xs = [.ref a] ∧ Dp K H (.ref a) d ∧ d.showable = true ∧ d.hasDict = false ∧ d.depth ≤ 60 ∧ d.shown.length ≤ sizeLine ∧ Q (.str d.shown) H
end
section
variable {K : PySem.W.Frag} {H : Hp} {Q : VK} {v x y : V} {b : Bool}
theorem o_fdW {f : Int → Int → V} {i j : Int} (h1 : 0 < j) (h2 : j ≤ 10 ^ 90) (h : Q (f i j) H) : rI CDivW f (.int i) (.int j) H Q :=
  ⟨i, j, rfl, rfl, wide_div (b := 400) h1 (by
    have : (10 : Int) ^ 90 < 2 ^ 400 := by decide +kernel
    omega) (by decide) (by decide), h⟩
/-- a rest, its bounds alone -/
theorem o_modG {i j : Int} (h1 : 0 < j) (h : ∀ r : Int, 0 ≤ r → r < j → Q (.int r) H) : rI (fun _ j => 0 < j) (fun i j => .int (i % j)) (.int i) (.int j) H Q := o_mod h1 (h _ (Int.emod_nonneg _ (by omega)) (Int.emod_lt_of_pos _ h1))
theorem b_all {a : Addr} {bs : List Bool} (hs : SqL K H a (bs.map V.bl)) (h : Q (.bl (bs.all id)) H) : rAll2 K [.ref a] H Q := ⟨a, bs, rfl, hs, h⟩
theorem b_sum {a : Addr} {ns : List Int} (hs : SqL K H a (ns.map V.int)) (h : Q (.int ns.sum) H) : rSum2 K [.ref a] H Q := ⟨a, ns, rfl, hs, h⟩
theorem b_mx {i j : Int} (h : Q (.int (max i j)) H) : rMx2 K [.int i, .int j] H Q := ⟨i, j, rfl, by
  have e : (if j > i then j else i) = max i j := by split <;> omega
  rw [e]
  exact h⟩
theorem b_mn {i j : Int} (h : Q (.int (min i j)) H) : rMn2 K [.int i, .int j] H Q := ⟨i, j, rfl, by
  have e : (if j < i then j else i) = min i j := by split <;> omega
  rw [e]
  exact h⟩
theorem b_is2 {n : String} {x : V} {tv : Value} (ty : TyX K H x tv) (h : PySem.W.kitOne K tv (.type n) = some b) (q : Q (.bl b) H) : rIsi2 K [x, .ty n] H Q := .inl (b_isi ty h q)
theorem ls_new {a : Addr} {xs : List V} (hs : SqL K H a xs) (h : ∀ p H2, H p = none → Same H H2 → H2 p = some (.lst xs) → Q (.ref p) H2) : rLst K [.ref a] H Q := ⟨a, xs, rfl, .inl hs, new_same h⟩
theorem ls_newT {a : Addr} {xs : List V} (hs : SqT K H a xs) (h : ∀ p H2, H p = none → Same H H2 → H2 p = some (.lst xs) → Q (.ref p) H2) : rLst K [.ref a] H Q := ⟨a, xs, rfl, .inr hs, new_same h⟩
theorem tp_new {a : Addr} {xs : List V} (hs : SqL K H a xs) (h : ∀ p H2, H p = none → Same H H2 → H2 p = some (.tup xs) → Q (.ref p) H2) : W6.rTup K [.ref a] H Q := W6.b_tup hs h
theorem tp_same {a : Addr} {xs : List V} (hs : SqT K H a xs) (h : Q (.ref a) H) : W6.rTup K [.ref a] H Q := ⟨a, xs, rfl, .inr ⟨hs, h⟩⟩
end
/-! ### draws -/
/-- each draw lies below its size -/
inductive Dr : List Int → List Int → Prop
  | nil : Dr [] []
  | cons {d s : Int} {ds ss : List Int} : 0 ≤ d → d < s → Dr ds ss → Dr (d :: ds) (s :: ss)
theorem Dr.len : ∀ {ds ss : List Int}, Dr ds ss → ds.length = ss.length
  | _, _, .nil => rfl
  | _, _, .cons _ _ h => by rw [List.length_cons, List.length_cons, h.len]
theorem Dr.snoc : ∀ {ds ss : List Int} {d s : Int}, Dr ds ss → 0 ≤ d → d < s → Dr (ds ++ [d]) (ss ++ [s])
  | _, _, _, _, .nil, h1, h2 => .cons h1 h2 .nil
  | _, _, _, _, .cons a b h, h1, h2 => .cons a b (h.snoc h1 h2)
theorem Dr.at : ∀ {ds ss : List Int} {i : Nat} {s : Int}, Dr ds ss → ss[i]? = some s → ∃ d, ds[i]? = some d ∧ 0 ≤ d ∧ d < s
  | _, _, 0, _, .cons a b _, e => by cases e; exact ⟨_, rfl, a, b⟩
  | _, _, i + 1, _, .cons _ _ h, e => h.at (i := i) e
theorem Dr.get {ds ss : List Int} {i : Nat} {d : Int} (h : Dr ds ss) (e : ds[i]? = some d) : ∃ s, ss[i]? = some s ∧ 0 ≤ d ∧ d < s := by
  have hl := h.len
  have hi := (List.getElem?_eq_some_iff.mp e).1
  obtain ⟨d', e', h1, h2⟩ := h.at (i := i) (List.getElem?_eq_getElem (by omega))
  rw [e] at e'
  cases e'
  exact ⟨_, List.getElem?_eq_getElem (by omega), h1, h2⟩
theorem Dr.inv {ds ss : List Int} {s : Int} (h : Dr ds (s :: ss)) : ∃ d r, ds = d :: r ∧ 0 ≤ d ∧ d < s ∧ Dr r ss := by
  cases h with
  | cons h1 h2 h3 => exact ⟨_, _, rfl, h1, h2, h3⟩
theorem Dr.nil_inv {ds : List Int} (h : Dr ds []) : ds = [] := by
  cases h
  rfl
/-- sizes that may be drawn below -/
def SzOk (ss : List Int) : Prop := ss.length ≤ 1000 ∧ ∀ s ∈ ss, 0 < s ∧ s ≤ 10 ^ 80
theorem szOk_of {ss : List Int} (h : (decide (ss.length ≤ 1000) && ss.all fun s => decide (0 < s) && decide (s ≤ 10 ^ 80)) = true) : SzOk ss := by
  simp only [Bool.and_eq_true, decide_eq_true_eq, List.all_eq_true] at h
  exact h
def PR : List Int := [2147483647, 998244353, 1000000007, 1000000009, 4294967291, 1073741789, 536870909, 2305843009213693951]
theorem pr_at {j : Nat} (h : j < 8) : ∃ p, PR[j]? = some p ∧ 0 < p ∧ p < 2 ^ 62 := by
  have : ∀ j, j < 8 → 0 < PR.getD j 0 ∧ PR.getD j 0 < 2 ^ 62 := by decide +kernel
  exact ⟨PR.getD j 0, by rw [List.getD_eq_getElem?_getD, List.getElem?_eq_getElem (by exact h)]; rfl, this j h⟩
theorem ix_pr {K : PySem.W.Frag} {H : Hp} {Q : VK} {a : Addr} {i : Int} (e : H a = some (.lst (PR.map V.int))) (h0 : 0 ≤ i) (h8 : i < 8) (h : ∀ p : Int, 0 < p → p < 2 ^ 62 → Q (.int p) H) : rIx K (.ref a) (.int i) H Q := by
  obtain ⟨p, g, p1, p2⟩ := pr_at (j := i.toNat) (by omega)
  exact o_ixL (lst_of e) (atI_of (j := i.toNat) (by omega) (v := .int p) (by rw [List.getElem?_map, g]; rfl)) (h p p1 p2)
/-- an int out of a list of ints -/
theorem ix_int {K : PySem.W.Frag} {H : Hp} {Q : VK} {a : Addr} {xs : List Int} {i : Int} (hs : SqL K H a (xs.map V.int)) (h0 : 0 ≤ i) (h1 : i < xs.length) (h : ∀ x : Int, xs[i.toNat]? = some x → Q (.int x) H) : rIx K (.ref a) (.int i) H Q := by
  have e := List.getElem?_eq_getElem (l := xs) (i := i.toNat) (by omega)
  exact o_ixL hs (atI_of (j := i.toNat) (by omega) (v := .int xs[i.toNat]) (by rw [List.getElem?_map, e]; rfl)) (h _ e)
def spCellN (K : PySem.W.Frag) : Sp := fun vs H Q _ => ∃ (a : Addr) (ns : List Int) (k : Int), vs = [.ref a, .int k] ∧ SqL K H a (ns.map V.int) ∧ ∀ r : Int, Q (.int r) H
def spDraws (K : PySem.W.Frag) : Sp := fun vs H Q _ => ∃ (a b : Addr) (ns ss : List Int) (k : Int), vs = [.ref a, .int k, .ref b] ∧ SqL K H a (ns.map V.int) ∧ SqL K H b (ss.map V.int) ∧ SzOk ss ∧
  ∀ p H' ds, Same H H' → H p = none → H' p = some (.lst ((ds : List Int).map V.int)) → Dr ds ss → Q (.ref p) H'
/-! ### lists and tuples alike -/
def iSeq (K : PySem.W.Frag) (te : TE) : TI := fun σ H R => iList K te σ H R ∨ iTup K te σ H R
theorem pi_seq {X : Cx} {tg e : Expr} {te : TE} (h : PE X e te) : PI X tg e (iSeq X.K te) := ⟨fun pins s σ H R I q => q.elim (fun q => (pi_list h).run pins s σ H R I q) (fun q => (pi_tup h).run pins s σ H R I q)⟩
theorem w_sl {K : PySem.W.Frag} {te : TE} {σ : L2.St} {H : Hp} {R : It → Hp → Prop} (h : te σ H fun x H1 => KL K x H1 R) : iSeq K te σ H R := .inl h
theorem w_st {K : PySem.W.Frag} {te : TE} {σ : L2.St} {H : Hp} {R : It → Hp → Prop} (h : te σ H fun x H1 => KT K x H1 R) : iSeq K te σ H R := .inr h
def Sq (K : PySem.W.Frag) (H : Hp) (a : Addr) (xs : List V) : Prop := SqL K H a xs ∨ SqT K H a xs
theorem Sq.same {K : PySem.W.Frag} {H H' : Hp} {a : Addr} {xs : List V} (h : Sq K H a xs) (s : Same H H') : Sq K H' a xs := h.imp (fun h => s.seq h) fun h => seqT s h
/-- an iterator over such -/
def SqIt (K : PySem.W.Frag) (a : Addr) (xs : List V) (J : It) (H : Hp) : Prop := (J = Itl K a ∧ SqL K H a xs) ∨ (J = Itt K a ∧ SqT K H a xs)
theorem SqIt.same {K : PySem.W.Frag} {H H' : Hp} {a : Addr} {xs : List V} {J : It} (h : SqIt K a xs J H) (s : Same H H') : SqIt K a xs J H' := h.imp (fun h => ⟨h.1, s.seq h.2⟩) fun h => ⟨h.1, seqT s h.2⟩
section
variable {K : PySem.W.Frag} {σ : L2.St} {H : Hp} {Q : VK} {D : Ends} {t : TS} {te : TE} {tt : TT} {g : TG} {a : Addr} {xs : List V} {vs : List Nat} {i : Nat} {J : It}
/-- for x in v, v a slot -/
theorem w_sq {R : It → Hp → Prop} (hs : Sq K H a xs) (e : σ[i]? = some (some (.ref a))) (h : ∀ J, SqIt K a xs J H → R J H) : iSeq K (tVar i) σ H R := by
  rcases hs with hs | hs
  · exact .inl (w_l (e_var e (k_l hs (h _ (.inl ⟨rfl, hs⟩)))))
  · exact .inr (w_t (e_var e (k_t hs (h _ (.inr ⟨rfl, hs⟩)))))
theorem f_sq {H0 : Hp} (hJ : SqIt K a xs J H0) (Pv : Nat → L2.St → Hp → Prop) (h0 : Pv 0 σ H) (hl : ∀ i σ H, Pv i σ H → Same H0 H)
    (hs : ∀ i x σ H, xs[i]? = some x → Pv i σ H → g x σ H fun σ2 H2 => t ⟨Pv (i + 1), D.rt, D.nx, Pv (i + 1)⟩ σ2 H2) (hd : ∀ σ H, Pv xs.length σ H → D.nx σ H) : LoopF J g t D σ H := by
  rcases hJ with ⟨rfl, hJ⟩ | ⟨rfl, hJ⟩
  · exact f_list Pv h0 (fun i σ H _ p => (hl i σ H p).seq hJ) hs hd
  · exact f_tup Pv h0 (fun i σ H _ p => seqT (hl i σ H p) hJ) hs hd
/-- a list comprehension: what is taken so far -/
theorem c_acc (hJ : SqIt K a xs J H) (R : Nat → List V → Hp → Prop) (mono : ∀ i acc H H', TK H H' → R i acc H → R i acc H') (small : ∀ i acc H, i ≤ xs.length → R i acc H → acc.length < sizeLine) (r0 : R 0 [] H)
    (step : ∀ i x H1 acc (N : VK) (M : Hp → Prop), xs[i]? = some x → Same H H1 → R i acc H1 → (∀ y H3, Same H1 H3 → R (i + 1) (acc ++ [y]) H3 → N y H3) → (∀ H3, Same H1 H3 → R (i + 1) acc H3 → M H3) →
      g x (wipe σ vs) H1 fun σ2 H2 => wipe σ2 vs = wipe σ vs ∧ tt σ2 H2 fun b H3 => if b = true then te σ2 H3 N else M H3)
    (post : ∀ D H2 ys, H D = none → Same H H2 → H2 D = some (.lst ys) → R xs.length ys H2 → Q (.ref D) H2) : LoopC J g tt te vs σ H Q := by
  have key : ∀ (D : Addr) (i : Nat) (x : V) (H1 : Hp), xs[i]? = some x → H D = none → (Same H H1 ∧ ∃ acc, H1 D = some (.lst acc) ∧ R i acc H1) → g x (wipe σ vs) H1 fun σ2 H2 => wipe σ2 vs = wipe σ vs ∧ tt σ2 H2 fun b H3 =>
      if b = true then te σ2 H3 fun y H4 => COut D y H4 (fun H5 => Same H H5 ∧ ∃ acc, H5 D = some (.lst acc) ∧ R (i + 1) acc H5) else (fun H5 => Same H H5 ∧ ∃ acc, H5 D = some (.lst acc) ∧ R (i + 1) acc H5) H3 := by
    intro D i x H1 hx nD ⟨s1, acc, e1, r1⟩
    have hi := (List.getElem?_eq_some_iff.mp hx).1
    refine step i x H1 acc _ _ hx s1 r1 (fun y H3 s3 r3 => ?_) (fun H3 s3 r3 => ⟨s1.trans s3, acc, s3 _ _ e1, r3⟩)
    refine c_out (s3 _ _ e1) (small i acc H1 (by omega) r1) fun H4 c4 e4 => ⟨c4.same (s1.trans s3) nD, _, e4, mono _ _ _ _ (c4.tk (s3 _ _ e1)) r3⟩
  have p0 : ∀ (D : Addr) (H1 : Hp), H D = none → Same H H1 → H1 D = some (.lst []) → (Same H H1 ∧ ∃ acc, H1 D = some (.lst acc) ∧ R 0 acc H1) := fun D H1 nD s1 e1 => ⟨s1, [], e1, mono _ _ _ _ s1.tk r0⟩
  have pe : ∀ (D : Addr) (H1 : Hp), H D = none → (Same H H1 ∧ ∃ acc, H1 D = some (.lst acc) ∧ R xs.length acc H1) → Q (.ref D) H1 := fun D H1 nD ⟨s1, acc, e1, r1⟩ => post D H1 acc nD s1 e1 r1
  rcases hJ with ⟨rfl, hJ⟩ | ⟨rfl, hJ⟩
  · exact c_list (fun D i H1 => Same H H1 ∧ ∃ acc, H1 D = some (.lst acc) ∧ R i acc H1) p0 (fun D i H1 _ _ p => p.1.seq hJ) (fun D i x H1 hx nD p => key D i x H1 hx nD p) pe
  · exact fun D nD => lc_tup (fun i H1 => Same H H1 ∧ ∃ acc, H1 D = some (.lst acc) ∧ R i acc H1) (p0 D _ nD (same_new nD) upd_same) (fun i H1 _ p => seqT p.1 hJ) (fun i x H1 hx p => key D i x H1 hx nD p) fun H1 p => pe D H1 nD p
theorem c_accR {lo : Int} {n : Nat} (R : Nat → List V → Hp → Prop) (mono : ∀ i acc H H', TK H H' → R i acc H → R i acc H') (small : ∀ i acc H, i ≤ n → R i acc H → acc.length < sizeLine) (r0 : R 0 [] H)
    (step : ∀ i H1 acc (N : VK) (M : Hp → Prop), i < n → Same H H1 → R i acc H1 → (∀ y H3, Same H1 H3 → R (i + 1) (acc ++ [y]) H3 → N y H3) → (∀ H3, Same H1 H3 → R (i + 1) acc H3 → M H3) →
      g (.int (lo + i)) (wipe σ vs) H1 fun σ2 H2 => wipe σ2 vs = wipe σ vs ∧ tt σ2 H2 fun b H3 => if b = true then te σ2 H3 N else M H3)
    (post : ∀ D H2 ys, H D = none → Same H H2 → H2 D = some (.lst ys) → R n ys H2 → Q (.ref D) H2) : LoopC (Itr lo n) g tt te vs σ H Q := by
  refine c_range (fun D i H1 => Same H H1 ∧ ∃ acc, H1 D = some (.lst acc) ∧ R i acc H1) (fun D H1 nD s1 e1 => ⟨s1, [], e1, mono _ _ _ _ s1.tk r0⟩) (fun D i H1 hi nD p => ?_) (fun D H1 nD ⟨s1, acc, e1, r1⟩ => post D H1 acc nD s1 e1 r1)
  obtain ⟨s1, acc, e1, r1⟩ := p
  refine step i H1 acc _ _ hi s1 r1 (fun y H3 s3 r3 => ?_) (fun H3 s3 r3 => ⟨s1.trans s3, acc, s3 _ _ e1, r3⟩)
  refine c_out (s3 _ _ e1) (small i acc H1 (by omega) r1) fun H4 c4 e4 => ⟨c4.same (s1.trans s3) nD, _, e4, mono _ _ _ _ (c4.tk (s3 _ _ e1)) r3⟩
end
/-- one value an item -/
def One (P : Nat → V → Hp → Prop) (i : Nat) (acc : List V) (H : Hp) : Prop := acc.length = i ∧ ∀ j y, acc[j]? = some y → P j y H
theorem One.zero {P : Nat → V → Hp → Prop} {H : Hp} : One P 0 [] H := ⟨rfl, fun j y e => by cases e⟩
theorem One.snoc {P : Nat → V → Hp → Prop} {i : Nat} {acc : List V} {H H3 : Hp} {y : V} (mono : ∀ j z, P j z H → P j z H3) (o : One P i acc H) (h : P i y H3) : One P (i + 1) (acc ++ [y]) H3 := by
  refine ⟨by rw [List.length_append, o.1]; rfl, fun j z e => ?_⟩
  by_cases hj : j < acc.length
  · rw [List.getElem?_append_left hj] at e
    exact mono _ _ (o.2 j z e)
  · have hj2 := (List.getElem?_eq_some_iff.mp e).1
    rw [List.length_append, List.length_singleton] at hj2
    have : j = acc.length := by omega
    subst this
    rw [List.getElem?_append_right (Nat.le_refl _), Nat.sub_self] at e
    cases e
    rw [o.1]
    exact h
/-- the list is known from its items -/
theorem One.eq {P : Nat → V → Hp → Prop} {α : Type} {F : α → V} {xs : List α} {acc : List V} {H : Hp} (o : One P xs.length acc H) (h : ∀ j y, j < xs.length → P j y H → xs[j]?.map F = some y) : acc = xs.map F := by
  refine List.ext_getElem? fun j => ?_
  by_cases hj : j < xs.length
  · have hj2 : j < acc.length := by rw [o.1]; exact hj
    rw [List.getElem?_map, h j _ hj (o.2 j acc[j] (List.getElem?_eq_getElem hj2)), List.getElem?_eq_getElem hj2]
  · rw [List.getElem?_eq_none (by rw [o.1]; omega), List.getElem?_eq_none (by rw [List.length_map]; omega)]
theorem One.eqR {P : Nat → V → Hp → Prop} {n : Nat} {F : Nat → V} {acc : List V} {H : Hp} (o : One P n acc H) (h : ∀ j y, j < n → P j y H → y = F j) : acc = (List.range n).map F := by
  refine One.eq (xs := List.range n) (F := F) (by rw [List.length_range]; exact o) fun j y hj p => ?_
  rw [List.length_range] at hj
  rw [List.getElem?_range hj, h j y hj p]
  rfl
theorem One.ints {P : Nat → V → Hp → Prop} {n : Nat} {acc : List V} {H : Hp} (o : One P n acc H) (h : ∀ j y, j < n → P j y H → ∃ i : Int, y = .int i) : ∃ xs : List Int, acc = xs.map V.int ∧ xs.length = n := by
  have key : ∀ acc : List V, (∀ y ∈ acc, ∃ i : Int, y = .int i) → ∃ xs : List Int, acc = xs.map V.int := by
    intro acc
    induction acc with
    | nil => exact fun _ => ⟨[], rfl⟩
    | cons y r ih =>
      intro h
      obtain ⟨i, rfl⟩ := h y List.mem_cons_self
      obtain ⟨xs, rfl⟩ := ih fun z hz => h z (List.mem_cons_of_mem _ hz)
      exact ⟨i :: xs, rfl⟩
  obtain ⟨xs, e⟩ := key acc fun y hy => by
    obtain ⟨j, hj, e⟩ := List.getElem_of_mem hy
    exact h j y (by rw [← o.1]; exact hj) (o.2 j y (by rw [List.getElem?_eq_getElem hj, e]))
  exact ⟨xs, e, by rw [← o.1, e, List.length_map]⟩
/-- `xs` with the pattern n times -/
theorem One.const {n : Nat} {acc : List V} {H : Hp} {v : V} (o : One (fun _ y _ => y = v) n acc H) : acc = List.replicate n v := by
  refine List.ext_getElem? fun j => ?_
  rw [List.getElem?_replicate]
  by_cases hj : j < n
  · rw [if_pos hj, List.getElem?_eq_getElem (by rw [o.1]; exact hj), o.2 j _ (List.getElem?_eq_getElem (by rw [o.1]; exact hj))]
  · rw [if_neg hj, List.getElem?_eq_none (by rw [o.1]; omega)]
end WN
/-! WQ: data that is equal. -/
namespace WQ
open PySem PySem.Spec PyProof.Rows L2 Wy WN
mutual
/-- no truth value in it -/
def nb : PyData → Bool
  | .none => true
  | .bool _ => false
  | .int _ => true
  | .str _ => true
  | .list xs => nbAll xs
  | .tuple xs => nbAll xs
  | .dict _ => false
def nbAll : List PyData → Bool
  | [] => true
  | x :: xs => nb x && nbAll xs
end
mutual
theorem eqv_iff : ∀ (d e : PyData), nb d = true → nb e = true → (PyData.eqv d e = true ↔ d = e)
  | .none, e, _, h => by cases e <;> simp [PyData.eqv, nb] at h ⊢
  | .bool _, _, h, _ => by simp [nb] at h
  | .int i, e, _, h => by cases e <;> simp [PyData.eqv, nb] at h ⊢
  | .str x, e, _, h => by cases e <;> simp [PyData.eqv, nb] at h ⊢
  | .list xs, e, h, h' => by
    cases e with
    | list ys =>
      have ih := eqvAll_iff xs ys (by simpa [nb] using h) (by simpa [nb] using h')
      simp [PyData.eqv, ih]
    | _ => simp [PyData.eqv, nb] at h' ⊢
  | .tuple xs, e, h, h' => by
    cases e with
    | tuple ys =>
      have ih := eqvAll_iff xs ys (by simpa [nb] using h) (by simpa [nb] using h')
      simp [PyData.eqv, ih]
    | _ => simp [PyData.eqv, nb] at h' ⊢
  | .dict _, _, h, _ => by simp [nb] at h
theorem eqvAll_iff : ∀ (xs ys : List PyData), nbAll xs = true → nbAll ys = true → (PyData.eqvAll xs ys = true ↔ xs = ys)
  | [], [], _, _ => by simp [PyData.eqvAll]
  | [], _ :: _, _, _ => by simp [PyData.eqvAll]
  | _ :: _, [], _, _ => by simp [PyData.eqvAll]
  | x :: xs, y :: ys, h, h' => by
    simp only [nbAll, Bool.and_eq_true] at h h'
    have i1 := eqv_iff x y h.1 h'.1
    have i2 := eqvAll_iff xs ys h.2 h'.2
    simp [PyData.eqvAll, i1, i2]
end
theorem shaped_of {d : PyData} (h : d.canLay0 = true) (h2 : d.depth ≤ 64) : SeqAt.shaped d = true := by
  unfold SeqAt.shaped
  rw [h, decide_eq_true h2]
  rfl
section
variable {K : PySem.W.Frag} {H : Hp} {Q : VK} {x y : V} {d e : PyData}
theorem eq_same (h1 : Dp K H x d) (h2 : Dp K H y d) (hs : SeqAt.shaped d = true) (h : Q (.bl true) H) : rEq2 K x y H Q := by
  refine o_eqD h1 h2 hs hs ?_
  rw [SeqAt.eqv_refl _ (SeqAt.canLay_of_shaped hs)]
  exact h
theorem ne_same (h1 : Dp K H x d) (h2 : Dp K H y d) (hs : SeqAt.shaped d = true) (h : Q (.bl false) H) : rNe2 K x y H Q := by
  refine o_neD h1 h2 hs hs ?_
  rw [SeqAt.eqv_refl _ (SeqAt.canLay_of_shaped hs)]
  exact h
theorem eq_nb (h1 : Dp K H x d) (h2 : Dp K H y e) (hs : SeqAt.shaped d = true) (hs2 : SeqAt.shaped e = true) (n1 : nb d = true) (n2 : nb e = true) (hy : d = e → Q (.bl true) H) (hn : d ≠ e → Q (.bl false) H) : rEq2 K x y H Q := by
  refine o_eqD h1 h2 hs hs2 ?_
  have i := eqv_iff d e n1 n2
  cases q : PyData.eqv d e with
  | true => exact hy (i.mp q)
  | false => exact hn fun z => by rw [i.mpr z] at q; cases q
theorem ne_nb (h1 : Dp K H x d) (h2 : Dp K H y e) (hs : SeqAt.shaped d = true) (hs2 : SeqAt.shaped e = true) (n1 : nb d = true) (n2 : nb e = true) (hy : d = e → Q (.bl false) H) (hn : d ≠ e → Q (.bl true) H) : rNe2 K x y H Q := by
  refine o_neD h1 h2 hs hs2 ?_
  have i := eqv_iff d e n1 n2
  cases q : PyData.eqv d e with
  | true => exact hy (i.mp q)
  | false => exact hn fun z => by rw [i.mpr z] at q; cases q
end
theorem lay_all {α : Type} (F : α → PyData) : ∀ xs : List α, (∀ x ∈ xs, (F x).canLay0 = true) → PyData.canLayAll0 (xs.map F) = true
  | [], _ => by simp [PyData.canLayAll0]
  | x :: xs, h => by simp [PyData.canLayAll0, h x List.mem_cons_self, lay_all F xs fun y hy => h y (List.mem_cons_of_mem _ hy)]
theorem dep_all {α : Type} (F : α → PyData) (n : Nat) : ∀ xs : List α, (∀ x ∈ xs, (F x).depth ≤ n) → PyData.depthAll (xs.map F) ≤ n
  | [], _ => by simp [PyData.depthAll]
  | x :: xs, h => by
    have h1 := h x List.mem_cons_self
    have h2 := dep_all F n xs fun y hy => h y (List.mem_cons_of_mem _ hy)
    simp only [List.map_cons, PyData.depthAll]
    omega
theorem nb_all {α : Type} (F : α → PyData) : ∀ xs : List α, (∀ x ∈ xs, nb (F x) = true) → nbAll (xs.map F) = true
  | [], _ => by simp [nbAll]
  | x :: xs, h => by simp [nbAll, h x List.mem_cons_self, nb_all F xs fun y hy => h y (List.mem_cons_of_mem _ hy)]
theorem shL {α : Type} (F : α → PyData) (xs : List α) (n : Nat) (hn : n < 64) (h : ∀ x ∈ xs, (F x).canLay0 = true ∧ (F x).depth ≤ n) : SeqAt.shaped (.list (xs.map F)) = true :=
  shaped_of (by simp [PyData.canLay0, lay_all F xs fun x hx => (h x hx).1]) (by have := dep_all F n xs fun x hx => (h x hx).2; simp only [PyData.depth]; omega)
theorem shT {α : Type} (F : α → PyData) (xs : List α) (n : Nat) (hn : n < 64) (h : ∀ x ∈ xs, (F x).canLay0 = true ∧ (F x).depth ≤ n) : SeqAt.shaped (.tuple (xs.map F)) = true :=
  shaped_of (by simp [PyData.canLay0, lay_all F xs fun x hx => (h x hx).1]) (by have := dep_all F n xs fun x hx => (h x hx).2; simp only [PyData.depth]; omega)
theorem lay_int (i : Int) : (PyData.int i).canLay0 = true ∧ (PyData.int i).depth ≤ 0 := ⟨by simp [PyData.canLay0], by simp [PyData.depth]⟩
theorem lay_bool (b : Bool) : (PyData.bool b).canLay0 = true ∧ (PyData.bool b).depth ≤ 0 := ⟨by simp [PyData.canLay0], by simp [PyData.depth]⟩
theorem lay_tup {ds : List PyData} {n : Nat} (h : ∀ x ∈ ds, x.canLay0 = true ∧ x.depth ≤ n) : (PyData.tuple ds).canLay0 = true ∧ (PyData.tuple ds).depth ≤ n + 1 := by
  have h1 := lay_all id ds fun x hx => (h x hx).1
  have h2 := dep_all id n ds fun x hx => (h x hx).2
  rw [List.map_id] at h1 h2
  exact ⟨by simp [PyData.canLay0, h1], by simp only [PyData.depth]; omega⟩
/-! values to data -/
theorem dp_ints {K : PySem.W.Frag} {H : Hp} : ∀ xs : List Int, DpAll K H (xs.map V.int) (xs.map PyData.int)
  | [] => .nil
  | x :: xs => .cons (.int x) (dp_ints xs)
theorem dp_bls {K : PySem.W.Frag} {H : Hp} : ∀ xs : List Bool, DpAll K H (xs.map V.bl) (xs.map PyData.bool)
  | [] => .nil
  | x :: xs => .cons (.bl x) (dp_bls xs)
theorem tp_ints {H : Hp} : ∀ xs : List Int, TpAll H (xs.map V.int) (xs.map PyData.int)
  | [] => .nil
  | x :: xs => .cons (.int x) (tp_ints xs)
theorem ints_tp {H : Hp} : ∀ {xs : List Int} {vs : List V}, TpAll H vs (xs.map PyData.int) → vs = xs.map V.int
  | [], _, h => by cases h; rfl
  | x :: xs, _, h => by
    cases h with
    | cons h1 h2 =>
      cases h1
      rw [ints_tp h2]
      rfl
theorem tpGet {α : Type} {F : α → PyData} {H : Hp} {us : List V} {xs : List α} {i : Nat} {u : V} (t : TpAll H us (xs.map F)) (e : us[i]? = some u) : ∃ x, xs[i]? = some x ∧ Tp H u (F x) := by
  have hl := t.length
  rw [List.length_map] at hl
  have hi := (List.getElem?_eq_some_iff.mp e).1
  have hx : xs[i]? = some xs[i] := List.getElem?_eq_getElem (by omega)
  obtain ⟨v, e2, tv⟩ := t.get (i := i) (d := F xs[i]) (by rw [List.getElem?_map, hx]; rfl)
  rw [e] at e2
  cases e2
  exact ⟨_, hx, tv⟩
theorem tpAt {α : Type} {F : α → PyData} {H : Hp} {us : List V} {xs : List α} {i : Nat} {x : α} (t : TpAll H us (xs.map F)) (e : xs[i]? = some x) : ∃ u, us[i]? = some u ∧ Tp H u (F x) :=
  t.get (by rw [List.getElem?_map, e]; rfl)
theorem tp3 {H : Hp} {v : V} {d1 d2 d3 : PyData} (h : Tp H v (.tuple [d1, d2, d3])) : ∃ a v1 v2 v3, v = .ref a ∧ H a = some (.tup [v1, v2, v3]) ∧ Tp H v1 d1 ∧ Tp H v2 d2 ∧ Tp H v3 d3 := by
  cases h with
  | tup e r =>
    cases r with | cons h1 r => cases r with | cons h2 r => cases r with | cons h3 r =>
      cases r
      exact ⟨_, _, _, _, rfl, e, h1, h2, h3⟩
theorem tp2 {H : Hp} {v : V} {d1 d2 : PyData} (h : Tp H v (.tuple [d1, d2])) : ∃ a v1 v2, v = .ref a ∧ H a = some (.tup [v1, v2]) ∧ Tp H v1 d1 ∧ Tp H v2 d2 := by
  cases h with
  | tup e r =>
    cases r with | cons h1 r => cases r with | cons h2 r =>
      cases r
      exact ⟨_, _, _, rfl, e, h1, h2⟩
theorem tpL {H : Hp} {v : V} {ds : List PyData} (h : Tp H v (.tuple ds)) : ∃ a vs, v = .ref a ∧ H a = some (.tup vs) ∧ TpAll H vs ds := by
  cases h with
  | tup e r => exact ⟨_, _, rfl, e, r⟩
theorem tpSnoc {H : Hp} {us : List V} {ds : List PyData} {v : V} {d : PyData} (t : TpAll H us ds) (h : Tp H v d) : TpAll H (us ++ [v]) (ds ++ [d]) := by
  induction us generalizing ds with
  | nil => cases t; exact .cons h .nil
  | cons u r ih => cases t with | cons a b => exact .cons a (ih b)
theorem tpApp {H : Hp} {us vs : List V} {ds es : List PyData} (t : TpAll H us ds) (h : TpAll H vs es) : TpAll H (us ++ vs) (ds ++ es) := by
  induction us generalizing ds with
  | nil => cases t; exact h
  | cons u r ih => cases t with | cons a b => exact .cons a (ih b)
theorem tpOf {H : Hp} : ∀ {us : List V} {ds : List PyData}, us.length = ds.length → (∀ (j : Nat) (y : V) (d : PyData), us[j]? = some y → ds[j]? = some d → Tp H y d) → TpAll H us ds
  | [], [], _, _ => .nil
  | [], _ :: _, h, _ => by simp at h
  | _ :: _, [], h, _ => by simp at h
  | u :: us, d :: ds, h, g => .cons (g 0 u d rfl rfl) (tpOf (by simpa using h) fun j y d a b => g (j + 1) y d (by simpa using a) (by simpa using b))
/-- one by one over a range -/
theorem tpOne {P : Nat → V → Hp → Prop} {F : Nat → PyData} {n : Nat} {us : List V} {H : Hp} (o : One P n us H) (h : ∀ j y, j < n → P j y H → Tp H y (F j)) : TpAll H us ((List.range n).map F) :=
  tpOf (by rw [o.1, List.length_map, List.length_range]) fun j y d a b => by
    have hj : j < n := by have := (List.getElem?_eq_some_iff.mp a).1; rw [o.1] at this; exact this
    rw [List.getElem?_map, List.getElem?_range hj] at b
    cases b
    exact h j y hj (o.2 j y a)
/-- tuples of ints -/
def iT (xs : List Int) : PyData := .tuple (xs.map .int)
theorem tpI {H : Hp} {v : V} {xs : List Int} (h : Tp H v (iT xs)) : ∃ a, v = .ref a ∧ H a = some (.tup (xs.map V.int)) := by
  obtain ⟨a, vs, rfl, e, t⟩ := tpL h
  rw [ints_tp t] at e
  exact ⟨a, rfl, e⟩
theorem iT_tp {H : Hp} {a : Addr} {xs : List Int} (e : H a = some (.tup (xs.map V.int))) : Tp H (.ref a) (iT xs) := .tup e (tp_ints xs)
theorem iT_lay (xs : List Int) : (iT xs).canLay0 = true ∧ (iT xs).depth ≤ 1 := lay_tup fun x hx => by
  obtain ⟨i, _, rfl⟩ := List.mem_map.mp hx
  exact lay_int i
theorem nb_int : ∀ xs : List Int, nbAll (xs.map PyData.int) = true
  | [] => rfl
  | x :: xs => by simp [nbAll, nb, nb_int xs]
theorem iT_nb (xs : List Int) : nb (iT xs) = true := by
  show nbAll _ = true
  exact nb_int xs
end WQ
/-! WS: differences and values. -/
namespace WS
open PySem PySem.Spec PyProof.Rows L2 Wy WN WQ
abbrev Df := Int × Int × Int
def dfD (d : Df) : PyData := .tuple [.int d.1, .int d.2.1, .int d.2.2]
theorem dfD_lay (d : Df) : (dfD d).canLay0 = true ∧ (dfD d).depth ≤ 1 := lay_tup (n := 0) fun x hx => by
  simp only [List.mem_cons, List.not_mem_nil, or_false] at hx
  rcases hx with rfl | rfl | rfl <;> exact lay_int _
theorem dfD_nb (d : Df) : nb (dfD d) = true := rfl
/-- the value of a node -/
def lv (vs : List Int) (n : Int) : Int := (0 :: vs).getD n.toNat 0
def kept (vs : List Int) (d : Df) : Bool := decide (lv vs d.1 - lv vs d.2.1 ≤ d.2.2)
def InR (n : Nat) (d : Df) : Prop := 0 ≤ d.1 ∧ d.1 ≤ n ∧ 0 ≤ d.2.1 ∧ d.2.1 ≤ n
theorem lv_at {vs : List Int} {n : Int} (h0 : 0 ≤ n) (h1 : n ≤ vs.length) : ((0 :: vs).map V.int)[n.toNat]? = some (.int (lv vs n)) := by
  have : n.toNat < (0 :: vs).length := by rw [List.length_cons]; omega
  rw [List.getElem?_map, List.getElem?_eq_getElem this]
  unfold lv
  rw [List.getD_eq_getElem?_getD, List.getElem?_eq_getElem this]
  rfl
section
variable {K : PySem.W.Frag} {H : Hp} {Q : VK} {a : Addr} {xs : List V} {x y z : V}
theorem ix_lv {vs : List Int} {n : Int} (hs : SqL K H a ((0 :: vs).map V.int)) (h0 : 0 ≤ n) (h1 : n ≤ vs.length) (h : Q (.int (lv vs n)) H) : rIx K (.ref a) (.int n) H Q := o_ixL hs (atI_of (j := n.toNat) (by omega) (lv_at h0 h1)) h
theorem b_allT (hs : SqL K H a xs) (hx : ∀ (j : Nat) (y : V), xs[j]? = some y → y = .bl true) (h : Q (.bl true) H) : rAll2 K [.ref a] H Q := by
  have e : xs = (List.replicate xs.length true).map V.bl := by
    refine List.ext_getElem? fun j => ?_
    rw [List.getElem?_map, List.getElem?_replicate]
    by_cases hj : j < xs.length
    · rw [if_pos hj, List.getElem?_eq_getElem hj, hx j _ (List.getElem?_eq_getElem hj)]
      rfl
    · rw [if_neg hj, List.getElem?_eq_none (by omega)]
      rfl
  rw [e] at hs
  refine b_all hs ?_
  have : (List.replicate xs.length true).all id = true := by simp
  rw [this]
  exact h
/-- all of truths that are known one by one -/
theorem b_allM {α : Type} {ds : List α} {f : α → Bool} (hs : SqL K H a (ds.map fun d => V.bl (f d))) (h : Q (.bl (ds.all f)) H) : rAll2 K [.ref a] H Q := by
  have e : ds.map (fun d => V.bl (f d)) = (ds.map f).map V.bl := by rw [List.map_map]; rfl
  rw [e] at hs
  refine b_all hs ?_
  have : (ds.map f).all id = ds.all f := by rw [List.all_map]; rfl
  rw [this]
  exact h
theorem b_len0 (hs : SqL K H a []) (h : Q (.int 0) H) : rLn K [.ref a] H Q := b_lenL hs h
theorem b_lenT0 (hs : SqT K H a []) (h : Q (.int 0) H) : rLn K [.ref a] H Q := b_lenT hs h
theorem b_lenT1 (hs : SqT K H a [x]) (h : Q (.int 1) H) : rLn K [.ref a] H Q := b_lenT hs h
theorem b_lenT2 (hs : SqT K H a [x, y]) (h : Q (.int 2) H) : rLn K [.ref a] H Q := b_lenT hs h
theorem b_lenT3 (hs : SqT K H a [x, y, z]) (h : Q (.int 3) H) : rLn K [.ref a] H Q := b_lenT hs h
end
def spIsInt : Sp := fun vs H Q _ => ∃ i : Int, vs = [.int i] ∧ Q (.bl true) H
/-- all differences kept by values -/
def spKept (K : PySem.W.Frag) : Sp := fun vs H Q _ => ∃ (a b : Addr) (us : List V) (ds : List Df) (vals : List Int), vs = [.ref a, .ref b] ∧ Sq K H a us ∧ TpAll H us (ds.map dfD) ∧ H b = some (.lst (vals.map V.int)) ∧ (∀ d ∈ ds, InR vals.length d) ∧
  ds.length ≤ 1000 ∧ vals.length ≤ 900 ∧ ∀ H', Same H H' → Q (.bl (ds.all (kept vals))) H'
end WS
local macro_rules | `(tactic| walk_at "tr") => `(tactic| first | assumption | exact lst_of (by assumption) | exact tup_of (by assumption) | (refine L2.Same.seq (by assumption) ?_; walk_at "tr") | (refine seqT (by assumption) ?_; walk_at "tr"))
local macro_rules | `(tactic| walk_at "s") => `(tactic| with_reducible first
  | refine s_seq ?_ | refine s_asg ?_ | refine g_name ?_ | refine s_ret ?_ | refine s_retN ?_ | refine s_drop ?_ | refine s_if ?_ | refine s_next ?_ | refine s_brk ?_ | refine s_ct ?_ | refine s_for ?_
  | (apply e_var; with_unfolding_all rfl) | refine e_c ?_ | refine e_op ?_ | refine e_un ?_ | refine a_cons ?_ | refine a_nil ?_ | refine c_b ?_ | refine c_call ?_ | refine t_test ?_ | refine k_bl ?_ | refine t_b ?_ | refine t_tr ?_ | refine k_trB ?_ | refine k_trN ?_ | refine k_trI ?_
  | refine t_and ?_ | refine t_or ?_ | refine t_not ?_ | refine e_andV ?_ | refine e_orV ?_ | refine e_notV ?_ | refine e_if ?_ | refine e_chain ?_ | refine e_tup ?_ | refine e_lst ?_ | refine e_sl ?_ | refine p_no ?_ | refine p_so ?_ | refine k_int ?_
  | refine m_bm ?_ | refine g_sub ?_ | refine m_m1 ?_ | refine m_st ?_ | refine e_lc ?_ | refine t_yes ?_ | refine w_r1 ?_ | refine w_r2 ?_ | refine w_l ?_ | refine w_t ?_ | refine w_s ?_ | refine k_s ?_
  | (apply s_aug; with_unfolding_all rfl) | refine i_add ?_ | refine o_addI ?_ | refine o_I0 ?_ | refine b_int ?_ | refine b_intB ?_ | refine b_abs ?_ | refine u_neg ?_ | refine o_isN ?_ | refine o_ntN ?_ | refine o_inS ?_ | refine o_niS ?_
  | refine g_cons ?_ | refine g_nil ?_ | refine e_joined ?_ | refine j_nil ?_ | refine j_cons ?_ | refine e_fmt ?_
  | refine WD.e_dget ?_ | refine WD.s_dput ?_
  | (refine o_mod ?_ ?_; omega) | (refine o_fdiv ?_ ?_ ?_; omega; omega) | (refine o_pow ?_ ?_ ?_ ?_; omega; omega; omega) | (refine o_mulI2 ?_ ?_ ?_; omega; omega) | (refine o_mulI1 ?_ ?_ ?_; omega; omega)
  | (refine WN.o_fdW ?_ ?_ ?_; omega; omega))
local macro_rules | `(tactic| walk_at "ss") => `(tactic| repeat walk_at "s")
local macro_rules | `(tactic| walk_at "ne") => `(tactic| first | assumption | exact Ne.symm (by assumption) | exact WN.ne_new (by assumption) (by walk_at "hp0") | exact Ne.symm (WN.ne_new (by assumption) (by walk_at "hp0")))
local macro_rules | `(tactic| walk_at "hp0") => `(tactic| first | assumption | (refine WN.sm (by assumption) ?_; walk_at "hp0"))
local macro_rules | `(tactic| walk_at "hp") => `(tactic| first | assumption | (refine WN.sm (by assumption) ?_; walk_at "hp") | (refine WN.cm (by assumption) (by walk_at "ne") ?_; walk_at "hp"))
local macro_rules | `(tactic| walk_at "sq") => `(tactic| first | assumption | exact lst_of (by walk_at "hp") | exact tup_of (by walk_at "hp") | (refine L2.Same.seq (by assumption) ?_; walk_at "sq") | (refine seqT (by assumption) ?_; walk_at "sq"))
local macro_rules | `(tactic| walk_at "sa") => `(tactic| first | assumption | exact L2.Same.refl _ | (refine L2.Same.trans ?_ (by assumption); walk_at "sa"))
local macro_rules | `(tactic| walk_at "ty") => `(tactic| first | exact .base (.int _) | exact .base (.bl _) | exact .base .non | exact .base (.str _) | exact .base (.lst (by walk_at "hp")) | exact .base (.tup (by walk_at "hp")))
local macro_rules | `(tactic| walk_at "x") => `(tactic| with_reducible first
  | walk_at "s"
  | (refine n_obj ?_ (fun _ _ _ _ _ => ?_); exact lz (Nat.le_of_ble_eq_true rfl))
  | (apply o_ixT; walk_at "sq"; with_unfolding_all rfl)
  | (apply o_ixL; walk_at "sq"; with_unfolding_all rfl)
  | (apply g_tup; walk_at "sq"; with_unfolding_all rfl)
  | (apply l_L; walk_at "sq"; intro _ _ _ _ _)
  | (refine k_r1 ?_ ?_ ?_; omega; omega)
  | refine WN.b_mx ?_ | refine WN.b_mn ?_
  | (apply k_l; walk_at "sq") | (apply k_t; walk_at "sq")
  | (apply WS.b_lenT2; walk_at "sq") | (apply WS.b_lenT3; walk_at "sq")
  | (apply WN.b_is2 (b := true); walk_at "ty"; exact L2.kit_ty (by decide +kernel)) | (apply WN.b_is2 (b := false); walk_at "ty"; exact L2.kit_ty (by decide +kernel))
  | refine L2.iteT ?_ | refine L2.iteF ?_
  | (refine WN.iteTT ?_ ?_; first | decide +kernel | exact WN.nNRN _ | exact WN.nNIN _ | exact WN.nNSN _ | exact WN.nNBN _)
  | (refine WN.iteFF ?_ ?_; first | decide +kernel | exact WN.nRN _ | exact WN.nIN _ | exact WN.nSN _ | exact WN.nBN _)
  | (refine o_eqS ?_ ?_; with_unfolding_all rfl) | (refine o_neS ?_ ?_; with_unfolding_all rfl))
local macro_rules | `(tactic| walk_at "xx") => `(tactic| repeat walk_at "x")
local macro_rules | `(tactic| walk_at "fr") => `(tactic| first | assumption | exact WN.free_of (by assumption) (by walk_at "sa"))
local macro_rules | `(tactic| walk_at "tp") => `(tactic| first | exact .nil | exact .int _ | exact .bl _ | exact .str _ | exact .non | (refine .cons ?_ ?_ <;> walk_at "tp") | (refine .tup (by walk_at "hp") ?_; walk_at "tp"))
/-! WC: sequences of either kind, and chains. -/
namespace WC
open PySem PySem.Spec PyProof.Rows L2 Wy WN WQ WS
abbrev tStar := StX.tStar
theorem pa_star {X : Cx} {e : Expr} {es : List Expr} {p : Pos} {te : TE} {t : TA} (he : PE X e te) (hr : PA X es t) (hs : starEach (.Starred e p :: es) X.env = (true, eval e X.env) :: starEach es X.env := by rfl) : PA X (.Starred e p :: es) (tStar X.K te t) := StX.pa_star he hr hs
theorem ixN_of {n : Nat} {k : Int} (h0 : 0 ≤ k) (h1 : k < n) : ixN n k = some k.toNat := by
  obtain ⟨j, rfl⟩ : ∃ j : Nat, k = j := ⟨k.toNat, by omega⟩
  rw [ixN_nat (by omega), Int.toNat_natCast]
theorem erase_perm {α : Type} : ∀ {xs : List α} {i : Nat} {x : α}, xs[i]? = some x → (x :: xs.eraseIdx i).Perm xs
  | [], _, _, h => by cases h
  | y :: xs, 0, x, h => by
    cases h
    exact .refl _
  | y :: xs, i + 1, x, h => (List.Perm.swap y x _).trans ((erase_perm (xs := xs) (i := i) h).cons y)
theorem take_sum1 {ws : List Int} {i : Nat} {w : Int} (h : ws[i]? = some w) : (ws.take (i + 1)).sum = (ws.take i).sum + w := by
  rw [List.take_succ, h, List.sum_append]
  simp
theorem nd_inj {α : Type} {xs : List α} {i j : Nat} {x : α} (nd : xs.Nodup) (h1 : xs[i]? = some x) (h2 : xs[j]? = some x) : i = j := by
  have l1 := (List.getElem?_eq_some_iff.mp h1).1
  exact (List.getElem?_inj l1 nd).mp (h1.trans h2.symm)
theorem tpIns {H : Hp} {v : V} {d : PyData} : ∀ {i : Nat} {us : List V} {ds : List PyData}, TpAll H us ds → Tp H v d → TpAll H (us.take i ++ [v] ++ us.drop i) (ds.take i ++ [d] ++ ds.drop i)
  | 0, us, ds, t, h => .cons h t
  | i + 1, _, _, .nil, h => .cons h .nil
  | i + 1, _, _, .cons a b, h => .cons a (tpIns (i := i) b h)
theorem tpTake {H : Hp} : ∀ {i : Nat} {us : List V} {ds : List PyData}, TpAll H us ds → TpAll H (us.take i) (ds.take i)
  | 0, us, ds, t => .nil
  | i + 1, _, _, .nil => .nil
  | i + 1, _, _, .cons a b => .cons a (tpTake (i := i) b)
theorem tpRev {H : Hp} : ∀ {us : List V} {ds : List PyData}, TpAll H us ds → TpAll H us.reverse ds.reverse
  | _, _, .nil => .nil
  | _, _, .cons a b => by
    rw [List.reverse_cons, List.reverse_cons]
    exact tpSnoc (tpRev b) a
section
variable {X : Cx}
theorem pe_bmK {K : PySem.W.Frag} {o e : Expr} {es : List Expr} {to : TE} {t : TA} {name : Str} {apos cpos : Pos} {T id : String} {r : V → List V → Hp → VK → Prop}
    (pa : PlainAttrs T) (slot : Slot T name id) (hty : typeOf (.builtin id) = pure (.type "method_descriptor")) (hm : MtR X id r) (ho : PE X o to) (ha : PA X (e :: es) t) (hK : X.K = K := by rfl)
    (hbase : attributeBase o name X.env (eval o X.env) = eval o X.env := by rfl)
    (hfew : ((backTo cpos (starEach (e :: es) X.env)).all (fun x => !x.1) && (backToKw cpos (keywordEach [] X.env)).all (fun x => x.1.isSome)
      && decide ((e :: es).length + ([] : List Keyword).length + (if ([] : List Keyword).isEmpty then 0 else 1) < 30)) = true := by rfl)
    (hline : (apos.endLine == cpos.line) = true := by rfl) (hs : starEach (e :: es) X.env = (false, eval e X.env) :: starEach es X.env := by rfl) (hplain : (backTo cpos (starEach es X.env)).any (·.1) = false := by rfl) :
    PE X (.Call (.Attribute o name apos) (e :: es) [] cpos) (tBM K T r to t) := hK ▸ pe_bm pa slot hty hm ho ha hbase hfew hline hs hplain
def rSl3 (K : PySem.W.Frag) : V → Option Int → Option Int → Hp → VK → Prop := fun x lo hi H Q => rSl2 K x lo hi H Q ∨ rSlA K x lo hi H Q
theorem sl_3 : SlR X (rSl3 X.K) := sl_2.or sl_tupA
def rIns : V → List V → Hp → VK → Prop := fun x vs H Q => ∃ (l : Addr) (xs : List V) (i : Int) (y : V), x = .ref l ∧ vs = [.int i, y] ∧ H l = some (.lst xs) ∧ xs.length < sizeLine ∧ 0 ≤ i ∧ i < 2 ^ 63 ∧ Q .non (upd H l (.lst (xs.take i.toNat ++ [y] ++ xs.drop i.toNat)))
theorem mt_insert2 : MtR X "list.insert" rIns := mt_insert
end
section
variable {K : PySem.W.Frag} {σ : L2.St} {H : Hp} {Q : VK} {QT : Bool → Hp → Prop} {te : TE} {tr : TA} {v x y : V} {QA : List V → Hp → Prop} {a : Addr} {xs : List V}
def KSt (K : PySem.W.Frag) (x : V) (t : TA) (σ : L2.St) (H : Hp) (QA : List V → Hp → Prop) : Prop := ∃ p xs, x = V.ref p ∧ (SqT K H p xs ∨ SqL K H p xs) ∧ t σ H fun ys H2 => QA (xs ++ ys) H2
theorem a_star (h : te σ H fun x H1 => KSt K x tr σ H1 QA) : tStar K te tr σ H QA := h
theorem k_st (hs : Sq K H a xs) (h : tr σ H fun ys H2 => QA (xs ++ ys) H2) : KSt K (.ref a) tr σ H QA := ⟨a, xs, rfl, hs.symm, h⟩
theorem k_trQ (hs : Sq K H a xs) (h : QT (!xs.isEmpty) H) : KTr K (.ref a) H QT := hs.elim (fun s => k_trL s h) fun s => k_trT s h
theorem b_lenQ (hs : Sq K H a xs) (h : Q (.int xs.length) H) : rLn K [.ref a] H Q := hs.elim (fun s => b_lenL s h) fun s => b_lenT s h
theorem o_ixQ {j : Int} (hs : Sq K H a xs) (e : atI xs j = some v) (h : Q v H) : rIx K (.ref a) (.int j) H Q := hs.elim (fun s => o_ixL s e h) fun s => o_ixT s e h
theorem ix_intQ {ns : List Int} {i : Int} (hs : Sq K H a (ns.map V.int)) (h0 : 0 ≤ i) (h1 : i < ns.length) (h : ∀ x : Int, ns[i.toNat]? = some x → Q (.int x) H) : rIx K (.ref a) (.int i) H Q := by
  have e := List.getElem?_eq_getElem (l := ns) (i := i.toNat) (by omega)
  exact o_ixQ hs (atI_of (j := i.toNat) (by omega) (v := .int ns[i.toNat]) (by rw [List.getElem?_map, e]; rfl)) (h _ e)
theorem m_ins {i : Int} (e : H a = some (.lst xs)) (hz : xs.length < sizeLine) (h0 : 0 ≤ i) (h1 : i ≤ xs.length) (h : ∀ H2, Chg a H H2 → H2 a = some (.lst (xs.take i.toNat ++ [y] ++ xs.drop i.toNat)) → Q .non H2) : rIns (.ref a) [.int i, y] H Q :=
  ⟨a, xs, i, y, rfl, rfl, e, hz, h0, by have : sizeLine = 16777216 := sizeLine_eq; omega, h _ chg_upd upd_same⟩
theorem m_popI {i : Int} (e : H a = some (.lst xs)) (hz : xs.length < sizeLine) (h0 : 0 ≤ i) (h1 : i < xs.length) (g : xs[i.toNat]? = some y) (h : ∀ H2, Chg a H H2 → H2 a = some (.lst (xs.eraseIdx i.toNat)) → Q y H2) : rPopAt (.ref a) [.int i] H Q := by
  have hs : sizeLine = 16777216 := sizeLine_eq
  refine ⟨a, xs, i, i.toNat, y, rfl, rfl, e, by omega, by omega, ?_, g, h _ chg_upd upd_same⟩
  unfold seqIndex?
  have : ¬ i < 0 := by omega
  simp [this, h0, h1]
/-- v[1:] of either kind, walked -/
theorem cut1 (xs : List V) : cutV xs (some 1) none = xs.drop 1 := by
  unfold cutV
  rw [show (1 : Int) = ((1 : Nat) : Int) from rfl, HT.sIx_nat]
  simp [HT.sIx]
  cases xs with
  | nil => rfl
  | cons x r => simp
theorem w_cut1 {b : Addr} {n : V} {r : List V} {i : Nat} {R : It → Hp → Prop} (hs : Sq K H b (n :: r)) (e : σ[i]? = some (some (.ref b))) (h : ∀ J p H2, Same H H2 → SqIt K p r J H2 → R J H2) :
    iSeq K (tSl (rSl3 K) (tVar i) (tPart (tC (.int 1))) tNoPart) σ H R := by
  have e1 : cutV (n :: r) (some 1) none = r := by rw [cut1]; rfl
  rcases hs with hs | hs
  · refine .inl (w_l (e_sl (e_var e (p_so (e_c (k_int (p_no ?_)))))))
    refine .inl (l_L hs fun p H2 np s2 e2 => ?_)
    rw [e1] at e2
    exact k_l (lst_of e2) (h _ p _ s2 (.inl ⟨rfl, lst_of e2⟩))
  · refine .inr (w_t (e_sl (e_var e (p_so (e_c (k_int (p_no ?_)))))))
    refine .inr ⟨b, n :: r, rfl, hs, fun c => ?_, fun _ => new_same (Q := fun x H1 => Wy.KT K x H1 R) fun p H2 np s2 e2 => ?_⟩
    · have := c.1
      rw [show (1 : Int) = ((1 : Nat) : Int) from rfl, HT.sIx_nat, List.length_cons] at this
      omega
    · rw [e1] at e2
      exact k_t (tup_of e2) (h _ p _ s2 (.inr ⟨rfl, tup_of e2⟩))
end
/-! ### chains -/
def dsAt (ds : List Df) (n : Int) : Df := ds.getD n.toNat (0, 0, 0)
def inB (m : Nat) (n : Int) : Bool := decide (0 ≤ n) && decide (n < (m : Int))
def runC : Df → List Df → Option Df
  | t, [] => some t
  | t, d :: r => if d.1 = t.2.1 then runC (t.1, d.2.1, t.2.2 + d.2.2) r else none
def csum (ds : List Df) : List Int → Option Df
  | [] => none
  | n :: r => if (n :: r).all (inB ds.length) = true then runC (dsAt ds n) (r.map (dsAt ds)) else none
def ringB (ds : List Df) (ns : List Int) : Bool := match csum ds ns with
  | none => false
  | some t => decide (t.1 = t.2.1) && decide (t.2.2 < 0)
def floorV (ds : List Df) (ns : List Int) (k : Int) : Option Int := match csum ds ns with
  | none => none
  | some t => if t.1 = 0 ∧ t.2.1 = k then some (-t.2.2) else none
theorem csum_cons {ds : List Df} {n : Int} {r : List Int} : csum ds (n :: r) = if (n :: r).all (inB ds.length) = true then runC (dsAt ds n) (r.map (dsAt ds)) else none := rfl
theorem ringB_none {ds : List Df} {ns : List Int} (e : csum ds ns = none) : ringB ds ns = false := by
  unfold ringB
  rw [e]
theorem ringB_some {ds : List Df} {ns : List Int} {t : Df} (e : csum ds ns = some t) : ringB ds ns = (decide (t.1 = t.2.1) && decide (t.2.2 < 0)) := by
  unfold ringB
  rw [e]
theorem floorV_none {ds : List Df} {ns : List Int} {k : Int} (e : csum ds ns = none) : floorV ds ns k = none := by
  unfold floorV
  rw [e]
theorem floorV_some {ds : List Df} {ns : List Int} {t : Df} {k : Int} (e : csum ds ns = some t) : floorV ds ns k = if t.1 = 0 ∧ t.2.1 = k then some (-t.2.2) else none := by
  unfold floorV
  rw [e]
inductive Path : List Df → Int → Int → Int → Prop
  | nil {u : Int} : Path [] u u 0
  | cons {r : List Df} {u v z c s : Int} : Path r v z s → Path ((u, v, c) :: r) u z (c + s)
theorem Path.app {b : List Df} {z t : Int} : ∀ {a : List Df} {u v s : Int}, Path a u v s → Path b v z t → Path (a ++ b) u z (s + t)
  | _, _, _, _, .nil, h => by
    rw [Int.zero_add]
    exact h
  | _, _, _, _, .cons p, h => by
    rw [Int.add_assoc]
    exact .cons (p.app h)
theorem Path.split {b : List Df} {z : Int} : ∀ {a : List Df} {u s : Int}, Path (a ++ b) u z s → ∃ m s1 s2, Path a u m s1 ∧ Path b m z s2 ∧ s = s1 + s2
  | [], u, s, h => ⟨u, 0, s, .nil, h, by omega⟩
  | d :: a, u, s, h => by
    cases h with
    | cons p =>
      obtain ⟨m, s1, s2, h1, h2, e⟩ := p.split
      exact ⟨m, _, s2, .cons h1, h2, by omega⟩
theorem Path.one {u v c : Int} : Path [(u, v, c)] u v c := by
  have := Path.cons (u := u) (c := c) (Path.nil (u := v))
  rwa [Int.add_zero] at this
theorem run_path {f : Int} : ∀ {es : List Df} {l z s t : Int}, Path es l z s → runC (f, l, t) es = some (f, z, t + s)
  | _, _, _, _, t, .nil => by rw [Int.add_zero]; rfl
  | _, _, _, _, t, .cons p => by
    unfold runC
    rw [if_pos rfl, run_path p]
    simp only [Option.some.injEq, Prod.mk.injEq, true_and]
    omega
theorem csum_path {ds : List Df} {ns : List Int} {u z s : Int} (h : ∀ n ∈ ns, 0 ≤ n ∧ n < ds.length) (p : Path (ns.map (dsAt ds)) u z s) (ne : ns ≠ []) : csum ds ns = some (u, z, s) := by
  cases ns with
  | nil => exact absurd rfl ne
  | cons n r =>
    show (if (n :: r).all (inB ds.length) = true then runC (dsAt ds n) (r.map (dsAt ds)) else none) = _
    rw [if_pos (List.all_eq_true.mpr fun x hx => by
      obtain ⟨h1, h2⟩ := h x hx
      unfold inB
      rw [decide_eq_true h1, decide_eq_true h2]
      rfl)]
    rw [List.map_cons] at p
    generalize dsAt ds n = d at p
    obtain ⟨a, b, c⟩ := d
    cases p with
    | cons p => exact run_path p
theorem kept_path {vs : List Int} : ∀ {es : List Df} {u z s : Int}, Path es u z s → (∀ d ∈ es, kept vs d = true) → lv vs u - lv vs z ≤ s
  | _, _, _, _, .nil, _ => by omega
  | _, u, z, _, .cons (v := v) (c := c) p, h => by
    have h1 := kept_path p fun d hd => h d (List.mem_cons_of_mem _ hd)
    have h2 := of_decide_eq_true (h (u, v, c) List.mem_cons_self)
    simp only at h2
    omega
theorem path_of (nd ws : Nat → Int) : ∀ n : Nat, Path ((List.range n).map fun k => (nd k, nd (k + 1), ws k)) (nd 0) (nd n) (((List.range n).map ws).sum)
  | 0 => .nil
  | n + 1 => by
    rw [List.range_succ, List.map_append, List.map_append, List.sum_append]
    refine (path_of nd ws n).app ?_
    simp only [List.map_cons, List.map_nil, List.sum_cons, List.sum_nil, Int.add_zero]
    exact Path.one
theorem path_rot {es : List Df} {u s : Int} (k : Nat) (p : Path es u u s) : ∃ m, Path (es.drop k ++ es.take k) m m s := by
  rw [← List.take_append_drop k es] at p
  obtain ⟨m, s1, s2, h1, h2, e⟩ := p.split
  refine ⟨m, ?_⟩
  rw [e, Int.add_comm]
  exact h2.app h1
theorem take_sum {ws : List Int} {n : Nat} (h : n ≤ ws.length) : (List.range n).map (fun k => ws.getD k 0) = ws.take n := by
  refine List.ext_getElem? fun j => ?_
  rw [List.getElem?_map, List.getElem?_take]
  by_cases hj : j < n
  · rw [List.getElem?_range hj, if_pos hj, List.getElem?_eq_getElem (by omega)]
    show some (ws.getD j 0) = _
    rw [List.getD_eq_getElem?_getD, List.getElem?_eq_getElem (by omega)]
    rfl
  · rw [List.getElem?_eq_none (by rw [List.length_range]; omega), if_neg hj]
    rfl
section
variable {K : PySem.W.Frag}
/-- the sum of a chain -/
def spChain (K : PySem.W.Frag) : Sp := fun vs H Q _ => ∃ (a b : Addr) (us : List V) (ds : List Df) (ns : List Int), vs = [.ref a, .ref b] ∧ Sq K H a us ∧ TpAll H us (ds.map dfD) ∧ Sq K H b (ns.map V.int) ∧ ds.length ≤ 1000 ∧ ns.length ≤ 1000 ∧
  (csum ds ns = none → ∀ H', Same H H' → Q .non H') ∧ ∀ t : Df, csum ds ns = some t → ∀ p H', Same H H' → H p = none → H' p = some (.tup [.int t.1, .int t.2.1, .int t.2.2]) → Q (.ref p) H'
def spRing (K : PySem.W.Frag) : Sp := fun vs H Q _ => ∃ (a b : Addr) (us : List V) (ds : List Df) (ns : List Int), vs = [.ref a, .ref b] ∧ Sq K H a us ∧ TpAll H us (ds.map dfD) ∧ Sq K H b (ns.map V.int) ∧ ds.length ≤ 1000 ∧ ns.length ≤ 1000 ∧
  ∀ H', Same H H' → Q (.bl (ringB ds ns)) H'
def oI : Option Int → V
  | none => .non
  | some i => .int i
def spFloor (K : PySem.W.Frag) : Sp := fun vs H Q _ => ∃ (a b : Addr) (us : List V) (ds : List Df) (ns : List Int) (k : Int), vs = [.ref a, .ref b, .int k] ∧ Sq K H a us ∧ TpAll H us (ds.map dfD) ∧ Sq K H b (ns.map V.int) ∧ ds.length ≤ 1000 ∧ ns.length ≤ 1000 ∧
  ∀ H', Same H H' → Q (oI (floorV ds ns k)) H'
def spKeeps (K : PySem.W.Frag) : Sp := fun vs H Q _ => ∃ (a b : Addr) (us : List V) (ds : List Df) (vals : List Int), vs = [.ref a, .ref b] ∧ Sq K H a us ∧ TpAll H us (ds.map dfD) ∧ Sq K H b (vals.map V.int) ∧ (∀ d ∈ ds, InR vals.length d) ∧
  ds.length ≤ 1000 ∧ vals.length ≤ 900 ∧ ∀ H', Same H H' → Q (.bl (ds.all (kept vals))) H'
def spTells : Sp := fun vs H Q _ => ∃ x y : Bool, vs = [.bl x, .bl y] ∧ Q (.bl (decide (x = y))) H
def spWt : Sp := fun vs H Q _ => ∃ d : Int, vs = [.int d] ∧ ∀ r : Int, Q (.int r) H
def spDiffs (K : PySem.W.Frag) : Sp := fun vs H Q _ => ∃ (a : Addr) (zs : List Int) (pl : Int) (n m : Nat), vs = [.ref a, .int pl, .int n, .int m] ∧ SqL K H a (zs.map V.int) ∧ n ≤ 100 ∧ m ≤ 1000 ∧
  ∀ p us H' ds, Same H H' → H p = none → H' p = some (.lst us) → TpAll H' us ((ds : List Df).map dfD) → ds.length = n → (∀ d ∈ ds, InR m d) → Q (.ref p) H'
end
end WC
/-! WE: comprehensions of the laws. -/
namespace WE
open PySem PySem.Spec PyProof.Rows L2 Wy WN WQ WS WC
section
variable {K : PySem.W.Frag} {σ : L2.St} {H : Hp} {Q : VK} {te : TE} {vs : List Nat} {i : Nat} {a : Addr}
/-- one value again and again -/
theorem c_const {lo : Int} {n : Nat} {v : V} (hte : ∀ σ H (N : VK), N v H → te σ H N) (hz : n ≤ 100000) (hw : ∀ x, wipe ((wipe σ vs).set i (some x)) vs = wipe σ vs) (post : ∀ D H2, H D = none → Same H H2 → H2 D = some (.lst (List.replicate n v)) → Q (.ref D) H2) :
    LoopC (Itr lo n) (gName i) tYes te vs σ H Q := by
  refine c_accR (One fun _ y _ => y = v) (fun _ _ _ _ _ h => h) (fun i acc H hi h => small1000' (by rw [h.1]; omega)) One.zero (fun j H1 acc N M hj s1 o hN hM => ?_) (fun D H1 ys nD s1 e1 o => ?_)
  · refine g_name ⟨hw _, t_yes ?_⟩
    exact iteTT rfl (hte _ _ _ (hN _ _ (Same.refl _) (o.snoc (fun _ _ h => h) rfl)))
  · rw [o.const] at e1
    exact post D H1 nD s1 e1
theorem c_constI {lo : Int} {n : Nat} {c : Int} (hte : ∀ σ H (N : VK), N (.int c) H → te σ H N) (hz : n ≤ 100000) (hw : ∀ x, wipe ((wipe σ vs).set i (some x)) vs = wipe σ vs) (post : ∀ D H2, H D = none → Same H H2 → H2 D = some (.lst ((List.replicate n c).map V.int)) → Q (.ref D) H2) :
    LoopC (Itr lo n) (gName i) tYes te vs σ H Q := c_const hte hz hw fun D H2 nD s e => post D H2 nD s (by rw [List.map_replicate]; exact e)
/-- an int from each int -/
theorem c_ints {xs : List Int} (hs : SqL K H a (xs.map V.int)) (hte : ∀ (x : Int) H (N : VK), (∀ r : Int, N (.int r) H) → te ((wipe σ vs).set i (some (.int x))) H N) (hz : xs.length ≤ 100000) (hw : ∀ x, wipe ((wipe σ vs).set i (some x)) vs = wipe σ vs)
    (post : ∀ D H2 (rs : List Int), H D = none → Same H H2 → rs.length = xs.length → H2 D = some (.lst (rs.map V.int)) → Q (.ref D) H2) : LoopC (Itl K a) (gName i) tYes te vs σ H Q := by
  refine c_acc (xs := xs.map V.int) (.inl ⟨rfl, hs⟩) (One fun _ y _ => ∃ r : Int, y = .int r) (fun _ _ _ _ _ h => h) (fun i acc H hi h => small1000' (by rw [h.1]; rw [List.length_map] at hi; omega)) One.zero (fun j x H1 acc N M hx s1 o hN hM => ?_) (fun D H1 ys nD s1 e1 o => ?_)
  · rw [List.getElem?_map] at hx
    obtain ⟨d, gd, rfl⟩ := Option.map_eq_some_iff.mp hx
    refine g_name ⟨hw _, t_yes ?_⟩
    exact iteTT rfl (hte _ _ _ fun r => hN _ _ (Same.refl _) (o.snoc (fun _ _ h => h) ⟨r, rfl⟩))
  · rw [List.length_map] at o
    obtain ⟨rs, rfl, lr⟩ := o.ints fun _ _ _ h => h
    exact post D H1 rs nD s1 lr e1
/-- ints by place -/
theorem c_rng {lo : Int} {n : Nat} (F : Nat → Int) (hte : ∀ (j : Nat) H (N : VK), j < n → N (.int (F j)) H → te ((wipe σ vs).set i (some (.int (lo + j)))) H N) (hz : n ≤ 100000) (hw : ∀ x, wipe ((wipe σ vs).set i (some x)) vs = wipe σ vs)
    (post : ∀ D H2, H D = none → Same H H2 → H2 D = some (.lst (((List.range n).map F).map V.int)) → Q (.ref D) H2) : LoopC (Itr lo n) (gName i) tYes te vs σ H Q := by
  refine c_accR (One fun j y _ => y = .int (F j)) (fun _ _ _ _ _ h => h) (fun i acc H hi h => small1000' (by rw [h.1]; omega)) One.zero (fun j H1 acc N M hj s1 o hN hM => ?_) (fun D H1 ys nD s1 e1 o => ?_)
  · refine g_name ⟨hw _, t_yes ?_⟩
    exact iteTT rfl (hte _ _ _ hj (hN _ _ (Same.refl _) (o.snoc (fun _ _ h => h) rfl)))
  · have ey := o.eqR fun j y _ h => h
    rw [ey] at e1
    exact post D H1 nD s1 (by rw [List.map_map]; exact e1)
/-- one datum by place -/
theorem c_tps {lo : Int} {n : Nat} (F : Nat → PyData) (hte : ∀ (j : Nat) H1 (N : VK), j < n → Same H H1 → (∀ y H3, Same H1 H3 → Tp H3 y (F j) → N y H3) → te ((wipe σ vs).set i (some (.int (lo + j)))) H1 N) (hz : n ≤ 100000) (hw : ∀ x, wipe ((wipe σ vs).set i (some x)) vs = wipe σ vs)
    (post : ∀ D H2 us, H D = none → Same H H2 → H2 D = some (.lst us) → TpAll H2 us ((List.range n).map F) → Q (.ref D) H2) : LoopC (Itr lo n) (gName i) tYes te vs σ H Q := by
  refine c_accR (One fun j y H => Tp H y (F j)) (fun i acc H H' k h => ⟨h.1, fun j y e => (h.2 j y e).tk k⟩) (fun i acc H hi h => small1000' (by rw [h.1]; omega)) One.zero (fun j H1 acc N M hj s1 o hN hM => ?_) (fun D H1 ys nD s1 e1 o => ?_)
  · refine g_name ⟨hw _, t_yes ?_⟩
    exact iteTT rfl (hte _ _ _ hj s1 fun y H3 s3 t => hN _ _ s3 (o.snoc (fun _ _ h => h.tk s3.tk) t))
  · exact post D H1 ys nD s1 e1 (tpOne o fun j y _ h => h)
theorem c_rngV {lo : Int} {n : Nat} (F : Nat → V) (hte : ∀ (j : Nat) H (N : VK), j < n → (∀ H3, Same H H3 → N (F j) H3) → te ((wipe σ vs).set i (some (.int (lo + j)))) H N) (hz : n ≤ 100000) (hw : ∀ x, wipe ((wipe σ vs).set i (some x)) vs = wipe σ vs)
    (post : ∀ D H2, H D = none → Same H H2 → H2 D = some (.lst ((List.range n).map F)) → Q (.ref D) H2) : LoopC (Itr lo n) (gName i) tYes te vs σ H Q := by
  refine c_accR (One fun j y _ => y = F j) (fun _ _ _ _ _ h => h) (fun i acc H hi h => small1000' (by rw [h.1]; omega)) One.zero (fun j H1 acc N M hj s1 o hN hM => ?_) (fun D H1 ys nD s1 e1 o => ?_)
  · refine g_name ⟨hw _, t_yes ?_⟩
    exact iteTT rfl (hte _ _ _ hj (fun H3 s3 => hN _ _ s3 (o.snoc (fun _ _ h => h) rfl)))
  · have ey := o.eqR fun j y _ h => h
    rw [ey] at e1
    exact post D H1 nD s1 e1
def KRev (K : PySem.W.Frag) (x : V) (H : Hp) (Q : VK) : Prop := ∃ a xs, x = V.ref a ∧ SqL K H a xs ∧ ∀ p, H p = none → Q (.ref p) (upd H p (.lst xs.reverse))
theorem e_revL (h : te σ H fun x H1 => KRev K x H1 Q) : tRevL K te σ H Q := h
theorem k_rev {xs : List V} (e : H a = some (.lst xs)) (h : ∀ p H2, H p = none → Same H H2 → H2 p = some (.lst xs.reverse) → Q (.ref p) H2) : KRev K (.ref a) H Q := ⟨a, xs, rfl, lst_of e, new_same h⟩
theorem ix_pick {c : Bool} {u v : V} (e : H a = some (.lst [u, v])) (h : Q (if c then v else u) H) : rIx K (.ref a) (.int (if c = true then 1 else 0)) H Q := by
  cases c with
  | true => exact o_ixL (lst_of e) (v := v) rfl h
  | false => exact o_ixL (lst_of e) (v := u) rfl h
theorem o_isB {a b : Bool} (h : Q (.bl (decide (a = b))) H) : rIsB (.bl a) (.bl b) H Q := ⟨a, b, rfl, rfl, h⟩
theorem o_ntB {a b : Bool} (h : Q (.bl (!decide (a = b))) H) : rNotB (.bl a) (.bl b) H Q := ⟨a, b, rfl, rfl, h⟩
theorem cutTo (xs : List V) {i : Int} (h : 0 ≤ i) : cutV xs none (some i) = xs.take i.toNat := by
  obtain ⟨k, rfl⟩ : ∃ k : Nat, i = k := ⟨i.toNat, by omega⟩
  unfold cutV
  rw [HT.sIx_nat, HT.sIx_none, List.drop_zero, Nat.sub_zero, Int.toNat_natCast]
  by_cases hk : k ≤ xs.length
  · rw [Nat.min_eq_left hk]
  · rw [Nat.min_eq_right (by omega), List.take_of_length_le (Nat.le_refl _), List.take_of_length_le (by omega)]
theorem cutFrom (xs : List V) {i : Int} (h : 0 ≤ i) : cutV xs (some i) none = xs.drop i.toNat := by
  obtain ⟨k, rfl⟩ : ∃ k : Nat, i = k := ⟨i.toNat, by omega⟩
  unfold cutV
  rw [HT.sIx_nat, HT.sIx_none, Int.toNat_natCast]
  by_cases hk : k ≤ xs.length
  · rw [Nat.min_eq_left hk, List.take_of_length_le (by rw [List.length_drop]; omega)]
  · rw [Nat.min_eq_right (by omega), List.drop_of_length_le (Nat.le_refl _), List.drop_of_length_le (by omega)]
    simp
theorem ne_ints {H : Hp} {a b v : Addr} {rs : List V} {xs : List Int} (h1 : H a = some (.lst (.ref v :: rs))) (h2 : H b = some (.lst (xs.map V.int))) : b ≠ a := by
  intro e
  subst e
  rw [h1] at h2
  cases xs <;> cases h2
end
end WE
/-! WO: instances of own classes. -/
namespace WO
open PySem PySem.Spec PyProof.Rows L2 Wy WN WQ
/-- a method of a class of the top -/
structure MetOk (K : PySem.W.Frag) (C m qual : Str) (st : Stmt) : Prop where
  ex : ∃ f fd, FunD K m qual (defArgs st) (defBody st) (defScope st) [] [] f fd ∧ Meth K (He.ga K C) m f
structure MakOk (K : PySem.W.Frag) (mg : Str → Option Value) (C qual : Str) (st : Stmt) : Prop where
  ex : ∃ f fd, FunD K "__init__" qual (defArgs st) (defBody st) (defScope st) [] [] f fd ∧ Mk K (He.ga K C) f ∧ mg C = some (.ref (He.ga K C))
section
variable {P : Program} {w : World} {K : PySem.W.Frag} {mg : Str → Option Value} {base : Heap} {C m qual : Str} {st : Stmt} {N ps : List Str} {k : Nat} {sp : Sp}
theorem met_of (F : MetOk K C m qual st) (cl : Cls K (He.ga K C)) (S : FnScope N ps (defScope st)) (hb : ∀ f fd, FunD K m qual (defArgs st) (defBody st) (defScope st) [] [] f fd → Binds K fd ps []) (len : ∀ vs H Q E, sp vs H Q E → vs.length = ps.length)
    (body : ∀ (f : Addr) (cdv : Value) (A : Around) (outer : List Env) (s : Shared) (H : Hp) (vs : List V) (Q : VK) (E : XK), Room k (A.deeper (envOfC qual (defScope st) s.heap.objs.size f cdv)) → sp vs H Q E →
      ∃ t, PSs (cxOf CX0 P w K mg base N qual (defScope st) f cdv A outer s H E).nox (defBody st) t ∧ t { nx := fun _ H' => Q .non H', rt := Q } (start N vs) H) : C8.Met P w K mg base (k + 1) (He.ga K C) m sp [] := by
  obtain ⟨f, fd, F, hm⟩ := F.ex
  refine ⟨f, fd, ps, [], cl, hm, F.ok S len fun cdv A outer s H vs Q E hr h => ?_, hb f fd F, .nil⟩
  obtain ⟨t, h1, h2⟩ := body f cdv A outer s H vs Q E hr h
  exact ⟨t, PSs.nox h1, h2⟩
theorem mak_of (F : MakOk K mg C qual st) (S : FnScope N ps (defScope st)) (hb : ∀ f fd, FunD K "__init__" qual (defArgs st) (defBody st) (defScope st) [] [] f fd → Binds K fd ps []) (len : ∀ vs H Q E, sp vs H Q E → vs.length = ps.length)
    (body : ∀ (f : Addr) (cdv : Value) (A : Around) (outer : List Env) (s : Shared) (H : Hp) (vs : List V) (Q : VK) (E : XK), Room k (A.deeper (envOfC qual (defScope st) s.heap.objs.size f cdv)) → sp vs H Q E →
      ∃ t, PSs (cxOf CX0 P w K mg base N qual (defScope st) f cdv A outer s H E).nox (defBody st) t ∧ t { nx := fun _ H' => Q .non H', rt := Q } (start N vs) H) : C8.Mak P w K mg base (k + 1) C (He.ga K C) sp [] := by
  obtain ⟨f, fd, F, hm, hg⟩ := F.ex
  refine ⟨f, fd, ps, [], hm, F.ok S len fun cdv A outer s H vs Q E hr h => ?_, hg, hb f fd F, .nil⟩
  obtain ⟨t, h1, h2⟩ := body f cdv A outer s H vs Q E hr h
  exact ⟨t, PSs.nox h1, h2⟩
end
section
variable {X : Cx}
theorem pe_fldK {K : PySem.W.Frag} {e : Expr} {f : Str} {pos : Pos} {ta : TE} (he : PE X e ta) (hK : X.K = K := by rfl) (hb : attributeBase e f X.env (eval e X.env) = eval e X.env := by rfl) : PE X (.Attribute e f pos) (tFld K ta f) := hK ▸ pe_fld he hb
theorem ps_fldK {K : PySem.W.Frag} {o value : Expr} {f : Str} {pos pos' : Pos} {ta tv : TE} (ha : PE X o ta) (hv : PE X value tv) (hK : X.K = K := by rfl) (hs : swapsWith value (some (.Attribute o f pos')) pos.line X.env = pure false := by rfl) :
    PS X (.Assign [.Attribute o f pos'] value pos) (sFld K ta tv f) := hK ▸ ps_fld ha hv hs
theorem ps_fldaugK {K : PySem.W.Frag} {o value : Expr} {f : Str} {pos pos' : Pos} {ta tv : TE} {op : Operator} {rd : V → V → Hp → VK → Prop} (ha : PE X o ta) (hv : PE X value tv) (hop : InOp X op rd) (hK : X.K = K := by rfl) :
    PS X (.AugAssign (.Attribute o f pos') op value pos) (sFldAug K ta tv rd f) := hK ▸ ps_fldaug ha hv hop
end
section
variable {K : PySem.W.Frag} {σ : L2.St} {H : Hp} {Q : VK} {D : Ends} {te ta tv : TE} {tl : TA} {v x y : V} {a C dx : Addr} {fs : List (Str × V)} {f m : Str} {sp : Sp} {dvs : List V} {E : XK}
def KFld (K : PySem.W.Frag) (f : Str) (x : V) (H : Hp) (Q : VK) : Prop := ∃ a C dx fs v, x = V.ref a ∧ H a = some (.ins C dx fs) ∧ Cls K C ∧ NoAttr K C f ∧ fs.lookup f = some v ∧ Q v H
theorem e_fld (h : te σ H fun x H1 => KFld K f x H1 Q) : tFld K te f σ H Q := h
theorem k_fld (e : H a = some (.ins C dx fs)) (c : Cls K C) (n : NoAttr K C f) (l : fs.lookup f = some v) (h : Q v H) : KFld K f (.ref a) H Q := ⟨a, C, dx, fs, v, rfl, e, c, n, l, h⟩
def KFldS (K : PySem.W.Frag) (f : Str) (y : V) (D : Ends) (σ : L2.St) (x : V) (H : Hp) : Prop := ∃ a C dx fs, x = V.ref a ∧ H a = some (.ins C dx fs) ∧ Cls K C ∧ NoAttr K C f ∧ fs.length < 1000 ∧ D.nx σ (upd H a (.ins C dx (putF f y fs)))
theorem s_fld (h : tv σ H fun y H1 => ta σ H1 fun x H2 => KFldS K f y D σ x H2) : sFld K ta tv f D σ H := h
theorem k_fldS (e : H a = some (.ins C dx fs)) (c : Cls K C) (n : NoAttr K C f) (l : fs.length < 1000) (h : ∀ H2, Chg a H H2 → H2 a = some (.ins C dx (putF f y fs)) → D.nx σ H2) : KFldS K f y D σ (.ref a) H := ⟨a, C, dx, fs, rfl, e, c, n, l, h _ chg_upd upd_same⟩
theorem s_fldaug {i : Nat} {j c : Int} (ev : σ[i]? = some (some (.ref a))) (e : H a = some (.ins C dx fs)) (cl : Cls K C) (n : NoAttr K C f) (l : fs.lookup f = some (.int j)) (sm : fs.length < 1000) (h : ∀ H2, Chg a H H2 → H2 a = some (.ins C dx (putF f (.int (j + c)) fs)) → D.nx σ H2) :
    sFldAug K (tVar i) (tC (.int c)) rAdd f D σ H := ⟨.ref a, ev, a, C, dx, fs, .int j, rfl, e, cl, n, l, j, c, rfl, rfl, dx, fs, e, sm, h _ chg_upd upd_same⟩
theorem l_tup {xs : List V} {lo hi : Option Int} (e : H a = some (.tup xs)) (nw : ¬ (HT.sIx xs.length 0 lo = 0 ∧ HT.sIx xs.length xs.length hi = xs.length)) (h : ∀ p H2, H p = none → Same H H2 → H2 p = some (.tup (cutV xs lo hi)) → Q (.ref p) H2) : rSlA K (.ref a) lo hi H Q :=
  ⟨a, xs, rfl, tup_of e, fun z => absurd z nw, fun _ => new_same h⟩
def rBool : List V → Hp → VK → Prop := fun xs H Q => (∃ i, xs = [.int i] ∧ Q (.bl (i != 0)) H) ∨ ∃ k, xs = [.bl k] ∧ Q (.bl k) H
theorem call_bool2 {X : Cx} : CallR X (.type "bool") rBool := call_bool1
theorem b_boolB {b : Bool} (h : Q (.bl b) H) : rBool [.bl b] H Q := .inr ⟨b, rfl, h⟩
theorem o_tup0 {x : V} {xs : List V} (e : H a = some (.tup (x :: xs))) (h : Q x H) : rIx K (.ref a) (.int 0) H Q := o_ixT (tup_of e) (atI_nat (j := 0) rfl) h
theorem o_tup1 {x y : V} {xs : List V} (e : H a = some (.tup (x :: y :: xs))) (h : Q y H) : rIx K (.ref a) (.int 1) H Q := o_ixT (tup_of e) (atI_nat (j := 1) rfl) h
def KMeth (C : Addr) (m : Str) (sp : Sp) (dvs : List V) (E : XK) (t : TA) (σ : L2.St) (x : V) (H : Hp) (Q : VK) : Prop := ∃ a dx fs, x = V.ref a ∧ H a = some (.ins C dx fs) ∧ fs.lookup m = none ∧ t σ H fun vs H2 => sp (x :: (vs ++ dvs)) H2 Q E
theorem e_meth (h : te σ H fun x H1 => KMeth C m sp dvs E tl σ x H1 Q) : tMeth C m sp dvs E te tl σ H Q := h
theorem k_meth (e : H a = some (.ins C dx fs)) (l : fs.lookup m = none) (h : tl σ H fun vs H2 => sp (.ref a :: (vs ++ dvs)) H2 Q E) : KMeth C m sp dvs E tl σ (.ref a) H Q := ⟨a, dx, fs, rfl, e, l, h⟩
def KMake (C : Addr) (sp : Sp) (dvs : List V) (E : XK) (vs : List V) (H1 : Hp) (Q : VK) : Prop := ∀ x dx, H1 x = none → H1 dx = none → dx ≠ x → sp (.ref x :: (vs ++ dvs)) (upd (upd H1 dx (.own x)) x (.ins C dx [])) (fun v H2 => v = .non ∧ Q (.ref x) H2) E
theorem e_make (h : tl σ H fun vs H1 => KMake C sp dvs E vs H1 Q) : tMake C sp dvs E tl σ H Q := h
theorem k_make {vs : List V} (h : ∀ x dx H2, H x = none → H dx = none → dx ≠ x → Same H H2 → H2 x = some (.ins C dx []) → H2 dx = some (.own x) → sp (.ref x :: (vs ++ dvs)) H2 (fun v H3 => v = .non ∧ Q (.ref x) H3) E) : KMake C sp dvs E vs H Q := fun x dx nx nd ne =>
  h x dx _ nx nd ne (fun b o e => by rw [upd_ne (ne_of_none e nx), upd_ne (ne_of_none e nd)]; exact e) upd_same (by rw [upd_ne ne]; exact upd_same)
end
section
variable {K : PySem.W.Frag} {H : Hp} {Q : VK} {a b : Addr} {xs ys : List V}
theorem o_catT (ha : H a = some (.tup xs)) (hb : H b = some (.tup ys)) (hz : xs.length + ys.length ≤ sizeLine) (h : ∀ p H2, Same H H2 → H2 p = some (.tup (xs ++ ys)) → Q (.ref p) H2) : rCatA K (.ref a) (.ref b) H Q := by
  refine ⟨a, b, xs, ys, rfl, rfl, tup_of ha, tup_of hb, hz, fun e => h _ _ (Same.refl _) ?_, fun _ e => h _ _ (Same.refl _) ?_, fun _ _ => new_same fun p H2 _ s e => h _ _ s e⟩
  · rw [e, List.nil_append]
    exact hb
  · rw [e, List.append_nil]
    exact ha
end
/-! ### walks of any kind -/
section
variable {K : PySem.W.Frag} {σ : L2.St} {H : Hp} {Q : VK} {D : Ends} {t : TS} {te : TE} {tt : TT} {g : TG} {vs : List Nat} {J : It} {n : Nat} {G : Hp → Prop} {Y : Nat → Hp → V → Hp → Prop} {tl : TA}
theorem f_it (w : Walk J n G Y) (Pv : Nat → L2.St → Hp → Prop) (h0 : Pv 0 σ H) (hG : ∀ i σ H, i ≤ n → Pv i σ H → G H)
    (hs : ∀ i x σ H H', i < n → Pv i σ H → Y i H x H' → g x σ H' fun σ2 H2 => t ⟨Pv (i + 1), D.rt, D.nx, Pv (i + 1)⟩ σ2 H2) (hd : ∀ σ H, Pv n σ H → D.nx σ H) : LoopF J g t D σ H := for_it w Pv h0 hG hs hd
/-- a comprehension: what is taken so far, kept while only the new list changes -/
theorem c_it (w : Walk J n G Y) (R : Addr → Nat → List V → Hp → Prop) (hG : ∀ H', Same H H' → G H') (hY : ∀ i H1 x H2, Y i H1 x H2 → Same H1 H2) (small : n < sizeLine) (len : ∀ D i acc H1, R D i acc H1 → acc.length ≤ i)
    (mono : ∀ D i acc H1 H2, Chg D H1 H2 → (∃ ys, H1 D = some (.lst ys)) → R D i acc H1 → R D i acc H2) (r0 : ∀ D H1, H D = none → Same H H1 → H1 D = some (.lst []) → R D 0 [] H1)
    (step : ∀ D i x H1 H2 acc (N : VK) (M : Hp → Prop), i < n → H D = none → Same H H1 → H1 D = some (.lst acc) → R D i acc H1 → Y i H1 x H2 → Same H1 H2 → (∀ y H3, Same H2 H3 → R D (i + 1) (acc ++ [y]) H3 → N y H3) → (∀ H3, Same H2 H3 → R D (i + 1) acc H3 → M H3) →
      g x (wipe σ vs) H2 fun σ2 H2 => wipe σ2 vs = wipe σ vs ∧ tt σ2 H2 fun b H3 => if b = true then te σ2 H3 N else M H3)
    (post : ∀ D H2 ys, H D = none → Same H H2 → H2 D = some (.lst ys) → R D n ys H2 → Q (.ref D) H2) : LoopC J g tt te vs σ H Q := by
  intro D nD
  refine lc_it w (fun i H1 => Same H H1 ∧ ∃ acc, H1 D = some (.lst acc) ∧ R D i acc H1) ⟨same_new nD, [], upd_same, r0 D _ nD (same_new nD) upd_same⟩ (fun i H1 _ p => hG _ p.1) (fun i x H1 H2 hi p y => ?_) (fun H1 ⟨s1, acc, e1, r1⟩ => post D H1 acc nD s1 e1 r1)
  obtain ⟨s1, acc, e1, r1⟩ := p
  have s2 := hY _ _ _ _ y
  refine step D i x H1 H2 acc _ _ hi nD s1 e1 r1 y s2 (fun y H3 s3 r3 => ?_) (fun H3 s3 r3 => ⟨s1.trans (s2.trans s3), acc, s3 _ _ (s2 _ _ e1), r3⟩)
  have e3 := s3 _ _ (s2 _ _ e1)
  refine ⟨acc, e3, by have := len D i acc H1 r1; omega, (chg_upd (p := D)).same (s1.trans (s2.trans s3)) nD, _, upd_same, mono D _ _ _ _ chg_upd ⟨_, e3⟩ r3⟩
theorem yat_same {xs : List V} {i : Nat} {H1 H2 : Hp} {x : V} (y : YAt xs i H1 x H2) : Same H1 H2 := by
  rw [y.1]
  exact Same.refl _
theorem ypair_same {f1 f2 : Nat → Option V} {i : Nat} {H1 H2 : Hp} {x : V} (y : YPair f1 f2 i H1 x H2) : Same H1 H2 := by
  obtain ⟨T, a, b, rfl, h, rfl, _⟩ := y
  exact same_new h
/-- new lists by place -/
theorem c_rows {lo : Int} {i : Nat} (F : Nat → List V) (hte : ∀ (j : Nat) H1 (N : VK), j < n → Same H H1 → (∀ r H3, Same H1 H3 → H1 r = none → H3 r = some (.lst (F j)) → N (.ref r) H3) → te ((wipe σ vs).set i (some (.int (lo + j)))) H1 N) (hz : n ≤ 100000) (hw : ∀ x, wipe ((wipe σ vs).set i (some x)) vs = wipe σ vs)
    (post : ∀ D H2 (rs : List Addr), H D = none → Same H H2 → H2 D = some (.lst (rs.map V.ref)) → rs.length = n → (∀ (j : Nat) (r : Addr), rs[j]? = some r → H r = none ∧ H2 r = some (.lst (F j))) → Q (.ref D) H2) : LoopC (Itr lo n) (gName i) tYes te vs σ H Q := by
  refine c_it (walk_range (lo := lo) (n := n)) (fun D i acc H4 => acc.length = i ∧ ∀ (j : Nat) (y : V), acc[j]? = some y → ∃ r, y = .ref r ∧ r ≠ D ∧ H r = none ∧ H4 r = some (.lst (F j))) (fun _ _ => True.intro) (fun i H1 x H2 y => by rw [y.1]; exact Same.refl _) (small1000' hz)
    (fun D i acc H1 o => Nat.le_of_eq o.1) (fun D i acc H5 H6 c ⟨ys, e⟩ o => ⟨o.1, fun j y g => ?_⟩) (fun D H4 nD s e => ⟨rfl, fun j y g => by cases g⟩) (fun D j xx H4 H5 acc N M' hi nD s4 eD o y s5 hN hM => ?_) (fun D H4 ys nD s4 e4 o => ?_)
  · obtain ⟨r, rfl, hr, hr0, f⟩ := o.2 j y g
    exact ⟨r, rfl, hr, hr0, c.at f hr⟩
  · obtain ⟨rfl, rfl⟩ := y
    refine g_name ⟨hw _, t_yes ?_⟩
    refine iteTT rfl (hte j _ _ hi s4 fun r H6 s6 n6 e6 => ?_)
    refine hN _ _ s6 ⟨by rw [List.length_append, o.1]; rfl, fun k y g => ?_⟩
    by_cases hj : k < acc.length
    · rw [List.getElem?_append_left hj] at g
      obtain ⟨r1, rfl, hr, hr0, f⟩ := o.2 k y g
      exact ⟨r1, rfl, hr, hr0, s6 _ _ f⟩
    · have hj2 := (List.getElem?_eq_some_iff.mp g).1
      rw [List.length_append, List.length_singleton] at hj2
      have : k = acc.length := by omega
      subst this
      rw [List.getElem?_append_right (Nat.le_refl _), Nat.sub_self] at g
      cases g
      refine ⟨r, rfl, fun e => ?_, s4.free n6, by rw [o.1]; exact e6⟩
      subst e
      rw [eD] at n6
      cases n6
  · obtain ⟨rs, rfl⟩ : ∃ rs : List Addr, ys = rs.map V.ref := by
      have : ∀ ys : List V, (∀ y ∈ ys, ∃ r, y = .ref r) → ∃ rs : List Addr, ys = rs.map V.ref := by
        intro ys
        induction ys with
        | nil => exact fun _ => ⟨[], rfl⟩
        | cons y r ih =>
          intro h
          obtain ⟨i, rfl⟩ := h y List.mem_cons_self
          obtain ⟨xs, rfl⟩ := ih fun z hz => h z (List.mem_cons_of_mem _ hz)
          exact ⟨i :: xs, rfl⟩
      exact this ys fun y hy => by
        obtain ⟨j, hj, e⟩ := List.getElem_of_mem hy
        obtain ⟨r, h, _⟩ := o.2 j y (by rw [List.getElem?_eq_getElem hj, e])
        exact ⟨r, h⟩
    have lr := o.1
    rw [List.length_map] at lr
    refine post D H4 rs nD s4 e4 lr fun j r g => ?_
    obtain ⟨r', h, _, h2, h3⟩ := o.2 j (.ref r) (by rw [List.getElem?_map, g]; rfl)
    cases h
    exact ⟨h2, h3⟩
theorem w_zip {R : It → Hp → Prop} (h : tl σ H fun vs H1 => ∃ a b xs ys, vs = [.ref a, .ref b] ∧ SqL K H1 a xs ∧ SqL K H1 b ys ∧ R (Itz K a b) H1) : iZip K tl σ H R := h
theorem w_enum {R : It → Hp → Prop} (h : tl σ H fun vs H1 => ∃ a xs, vs = [.ref a] ∧ SqL K H1 a xs ∧ R (Ite K a) H1) : iEnum K tl σ H R := h
end
end WO
/-! WT: tables of bounds. -/
namespace WT
open PySem PySem.Spec PyProof.Rows L2 Wy WN WQ WS WC
abbrev Cell := Option (Int × List Int)
def cellD : Cell → PyData
  | none => .none
  | some p => .tuple [.int p.1, iT p.2]
def joinC (a b : Int × List Int) : Int × List Int := (a.1 + b.1, a.2 ++ b.2)
def shorter (old : Cell) (th : Int × List Int) : Cell → Cell
  | none => old
  | some r => match old with
    | some o => if o.1 ≤ th.1 + r.1 then some o else some (joinC th r)
    | none => some (joinC th r)
theorem shorter_some {o th r : Int × List Int} : shorter (some o) th (some r) = if o.1 ≤ th.1 + r.1 then some o else some (joinC th r) := rfl
def rowStep (known : List Cell) (before : Cell) (step : Int × List Int) (behind : List Cell) : List Cell := match before with
  | none => known
  | some b => (known.zip behind).map fun p => shorter p.1 (joinC b step) p.2
abbrev Tab := List (List Cell)
def cell (M : Tab) (i j : Nat) : Cell := (M.getD i []).getD j none
def bring (M : Tab) (u v : Nat) (step : Int × List Int) : Tab := M.map fun known => rowStep known (known.getD u none) step (M.getD v [])
def Sq2 (M : Tab) (n : Nat) : Prop := M.length = n + 1 ∧ ∀ row ∈ M, row.length = n + 1
/-- the ring that a difference closes -/
def ringOf (M : Tab) (d : Df) : Option (List Int) := match cell M d.2.1.toNat d.1.toNat with
  | some b => if d.2.2 + b.1 < 0 then some b.2 else none
  | none => none
def tieM (M : Tab) (d : Df) (k : Nat) : Tab := match cell M d.1.toNat d.2.1.toNat with
  | some h => if d.2.2 < h.1 then bring M d.1.toNat d.2.1.toNat (d.2.2, [(k : Int)]) else M
  | none => bring M d.1.toNat d.2.1.toNat (d.2.2, [(k : Int)])
def tab0 (n : Nat) : Tab := (List.range (n + 1)).map fun u => (List.range (n + 1)).map fun v => if v = u then some (0, []) else none
theorem cell_at {M : Tab} {n i j : Nat} (h : Sq2 M n) (hi : i ≤ n) (hj : j ≤ n) : ∃ row, M[i]? = some row ∧ row[j]? = some (cell M i j) := by
  have h1 : i < M.length := by rw [h.1]; omega
  have h2 := h.2 _ (List.getElem_mem h1)
  refine ⟨M[i], List.getElem?_eq_getElem h1, ?_⟩
  unfold cell
  rw [List.getD_eq_getElem?_getD (l := M), List.getElem?_eq_getElem h1]
  show M[i][j]? = some (M[i].getD j none)
  rw [List.getD_eq_getElem?_getD, List.getElem?_eq_getElem (by omega)]
  rfl
theorem row_of {M : Tab} {n i : Nat} (h : Sq2 M n) (hi : i ≤ n) : M[i]? = some (M.getD i []) := by
  have h1 : i < M.length := by rw [h.1]; omega
  rw [List.getD_eq_getElem?_getD, List.getElem?_eq_getElem h1]
  rfl
theorem tab0_sq (n : Nat) : Sq2 (tab0 n) n := by
  refine ⟨by simp [tab0], fun row hr => ?_⟩
  obtain ⟨u, _, rfl⟩ := List.mem_map.mp hr
  simp
theorem tab0_cell {n i j : Nat} (hi : i ≤ n) (hj : j ≤ n) : cell (tab0 n) i j = if j = i then some (0, []) else none := by
  unfold cell tab0
  rw [List.getD_eq_getElem?_getD (l := List.map _ _) (i := i), List.getElem?_map, List.getElem?_range (by omega)]
  show ((List.range (n + 1)).map _).getD j none = _
  rw [List.getD_eq_getElem?_getD, List.getElem?_map, List.getElem?_range (by omega)]
  rfl
theorem rowStep_len {known behind : List Cell} {before : Cell} {step : Int × List Int} (h : known.length = behind.length) : (rowStep known before step behind).length = known.length := by
  unfold rowStep
  cases before with
  | none => rfl
  | some b => simp; omega
theorem bring_sq {M : Tab} {n u v : Nat} {step : Int × List Int} (h : Sq2 M n) (hv : v ≤ n) : Sq2 (bring M u v step) n := by
  refine ⟨by unfold bring; rw [List.length_map]; exact h.1, fun row hr => ?_⟩
  obtain ⟨known, hk, rfl⟩ := List.mem_map.mp hr
  have h1 := h.2 _ hk
  have h2 := h.2 _ (List.mem_of_getElem? (row_of h hv))
  rw [rowStep_len (by omega)]
  exact h1
theorem bring_cell {M : Tab} {n u v i j : Nat} {step : Int × List Int} (h : Sq2 M n) (hu : u ≤ n) (hv : v ≤ n) (hi : i ≤ n) (hj : j ≤ n) :
    cell (bring M u v step) i j = match cell M i u with | none => cell M i j | some b => shorter (cell M i j) (joinC b step) (cell M v j) := by
  obtain ⟨row, g1, g2⟩ := cell_at h hi hj
  obtain ⟨_, g3, g4⟩ := cell_at h hi hu
  obtain ⟨rv, g5, g6⟩ := cell_at h hv hj
  rw [g1] at g3
  cases g3
  have gu : row.getD u none = cell M i u := by rw [List.getD_eq_getElem?_getD, g4]; rfl
  have ge : (bring M u v step)[i]? = some (rowStep row (cell M i u) step rv) := by
    unfold bring
    rw [List.getElem?_map, g1, List.getD_eq_getElem?_getD (l := M), g5]
    show some (rowStep row (row.getD u none) step rv) = _
    rw [gu]
  unfold cell
  rw [List.getD_eq_getElem?_getD (l := bring M u v step), ge]
  show (rowStep row (cell M i u) step rv).getD j none = _
  show _ = match cell M i u with | none => cell M i j | some b => shorter (cell M i j) (joinC b step) (cell M v j)
  unfold rowStep
  cases cell M i u with
  | none =>
    show row.getD j none = _
    rw [List.getD_eq_getElem?_getD, g2]
    rfl
  | some b =>
    show ((row.zip rv).map _).getD j none = _
    rw [List.getD_eq_getElem?_getD, List.getElem?_map, show (row.zip rv)[j]? = some (cell M i j, cell M v j) from List.getElem?_zip_eq_some.mpr ⟨g2, g6⟩]
    rfl
/-! ### bounds alone -/
def relax (b x : Option Int) (c : Int) (y : Option Int) : Option Int := match x, y with
  | some x, some y => (match b with
    | some o => if o ≤ x + c + y then some o else some (x + c + y)
    | none => some (x + c + y))
  | _, _ => b
abbrev bd (M : Tab) (i j : Nat) : Option Int := (cell M i j).map (·.1)
theorem bring_bd {M : Tab} {n u v i j : Nat} {step : Int × List Int} (h : Sq2 M n) (hu : u ≤ n) (hv : v ≤ n) (hi : i ≤ n) (hj : j ≤ n) : bd (bring M u v step) i j = relax (bd M i j) (bd M i u) step.1 (bd M v j) := by
  unfold bd
  rw [bring_cell h hu hv hi hj]
  cases cell M i u with
  | none => rfl
  | some b =>
    cases cell M v j with
    | none => cases cell M i j <;> rfl
    | some r =>
      cases cell M i j with
      | none => rfl
      | some o =>
        show (shorter (some o) (joinC b step) (some r)).map _ = (if o.1 ≤ b.1 + step.1 + r.1 then _ else _)
        show (shorter (some o) (joinC b step) (some r)).map _ = (if o.1 ≤ (joinC b step).1 + r.1 then some o.1 else some ((joinC b step).1 + r.1))
        rw [shorter_some]
        by_cases q : o.1 ≤ (joinC b step).1 + r.1
        · rw [if_pos q, if_pos q]
          rfl
        · rw [if_neg q, if_neg q]
          rfl
/-- closed: the ground of all bounds -/
structure Cl (n : Nat) (B : Nat → Nat → Option Int) : Prop where
  diag : ∀ i, i ≤ n → B i i = some 0
  tri : ∀ i k j x y, i ≤ n → k ≤ n → j ≤ n → B i k = some x → B k j = some y → ∃ z, B i j = some z ∧ z ≤ x + y
theorem relax_le {b x y : Option Int} {c z : Int} (h : relax b x c y = some z) : b = some z ∨ ∃ p q, x = some p ∧ y = some q ∧ z = p + c + q := by
  unfold relax at h
  cases x with
  | none => exact .inl h
  | some p =>
    cases y with
    | none => exact .inl h
    | some q =>
      cases b with
      | none => exact .inr ⟨p, q, rfl, rfl, (Option.some.inj h).symm⟩
      | some o =>
        have h : (if o ≤ p + c + q then some o else some (p + c + q)) = some z := h
        split at h
        · exact .inl h
        · exact .inr ⟨p, q, rfl, rfl, (Option.some.inj h).symm⟩
theorem relax_old {x y : Option Int} {c o : Int} : ∃ z, relax (some o) x c y = some z ∧ z ≤ o := by
  unfold relax
  cases x with
  | none => exact ⟨o, rfl, Int.le_refl _⟩
  | some p =>
    cases y with
    | none => exact ⟨o, rfl, Int.le_refl _⟩
    | some q =>
      show ∃ z, (if o ≤ p + c + q then some o else some (p + c + q)) = some z ∧ z ≤ o
      split
      · exact ⟨o, rfl, Int.le_refl _⟩
      · exact ⟨_, rfl, by omega⟩
theorem relax_new {b : Option Int} {c p q : Int} : ∃ z, relax b (some p) c (some q) = some z ∧ z ≤ p + c + q := by
  unfold relax
  cases b with
  | none => exact ⟨_, rfl, Int.le_refl _⟩
  | some o =>
    show ∃ z, (if o ≤ p + c + q then some o else some (p + c + q)) = some z ∧ z ≤ p + c + q
    split
    · exact ⟨o, rfl, by assumption⟩
    · exact ⟨_, rfl, Int.le_refl _⟩
/-- a path by old bounds, made shorter -/
theorem Cl.relax {n u v : Nat} {c : Int} {B : Nat → Nat → Option Int} (h : Cl n B) (hu : u ≤ n) (hv : v ≤ n) (hc : ∀ b, B v u = some b → 0 ≤ c + b) : Cl n fun i j => WT.relax (B i j) (B i u) c (B v j) := by
  refine ⟨fun i hi => ?_, fun i k j x y hi hk hj hx hy => ?_⟩
  · obtain ⟨z, e, le⟩ := relax_old (x := B i u) (y := B v i) (c := c) (o := 0)
    show WT.relax (B i i) _ _ _ = _
    rw [h.diag i hi]
    rcases relax_le e with e2 | ⟨p, q, e2, e3, e4⟩
    · rw [e]
      exact e2.symm
    · obtain ⟨b, e5, le2⟩ := h.tri v i u q p hv hi hu e3 e2
      have := hc b e5
      rw [e]
      exact congrArg some (by omega)
  · show ∃ z, WT.relax (B i j) (B i u) c (B v j) = some z ∧ _
    rcases relax_le hx with e1 | ⟨p, q, e1, e2, e3⟩ <;> rcases relax_le hy with f1 | ⟨p', q', f1, f2, f3⟩
    · obtain ⟨z, g1, g2⟩ := h.tri i k j x y hi hk hj e1 f1
      rw [g1]
      obtain ⟨z', g3, g4⟩ := relax_old (x := B i u) (y := B v j) (c := c) (o := z)
      exact ⟨z', g3, by omega⟩
    · obtain ⟨a, g1, g2⟩ := h.tri i k u x p' hi hk hu e1 f1
      rw [g1, f2]
      obtain ⟨z', g3, g4⟩ := relax_new (b := B i j) (c := c) (p := a) (q := q')
      exact ⟨z', g3, by omega⟩
    · obtain ⟨a, g1, g2⟩ := h.tri v k j q y hv hk hj e2 f1
      rw [g1, e1]
      obtain ⟨z', g3, g4⟩ := relax_new (b := B i j) (c := c) (p := p) (q := a)
      exact ⟨z', g3, by omega⟩
    · obtain ⟨b, g1, g2⟩ := h.tri v k u q p' hv hk hu e2 f1
      have := hc b g1
      rw [e1, f2]
      obtain ⟨z', g3, g4⟩ := relax_new (b := B i j) (c := c) (p := p) (q := q')
      exact ⟨z', g3, by omega⟩
/-- what is not shorter brings nothing -/
theorem Cl.idle {n u v i j : Nat} {c g : Int} {B : Nat → Nat → Option Int} (h : Cl n B) (hu : u ≤ n) (hv : v ≤ n) (hi : i ≤ n) (hj : j ≤ n) (hg : B u v = some g) (hc : g ≤ c) : WT.relax (B i j) (B i u) c (B v j) = B i j := by
  unfold WT.relax
  cases e1 : B i u with
  | none => rfl
  | some p =>
    cases e2 : B v j with
    | none => rfl
    | some q =>
      obtain ⟨a, f1, f2⟩ := h.tri i u v p g hi hu hv e1 hg
      obtain ⟨z, f3, f4⟩ := h.tri i v j a q hi hv hj f1 e2
      rw [f3]
      show (if z ≤ p + c + q then some z else _) = _
      rw [if_pos (by omega)]
theorem tie_bd {M : Tab} {n i j k : Nat} {d : Df} (h : Sq2 M n) (hc : Cl n (bd M)) (hd : InR n d) (hi : i ≤ n) (hj : j ≤ n) : bd (tieM M d k) i j = relax (bd M i j) (bd M i d.1.toNat) d.2.2 (bd M d.2.1.toNat j) := by
  obtain ⟨h0, h1, h2, h3⟩ := hd
  have hu : d.1.toNat ≤ n := by omega
  have hv : d.2.1.toNat ≤ n := by omega
  unfold tieM
  cases e : cell M d.1.toNat d.2.1.toNat with
  | none => exact bring_bd h hu hv hi hj
  | some g =>
    show bd (if d.2.2 < g.1 then _ else M) i j = _
    split
    · exact bring_bd h hu hv hi hj
    · exact (hc.idle hu hv hi hj (g := g.1) (by show (cell M _ _).map _ = _; rw [e]; rfl) (by omega)).symm
theorem tie_sq {M : Tab} {n k : Nat} {d : Df} (h : Sq2 M n) (hd : InR n d) : Sq2 (tieM M d k) n := by
  obtain ⟨h0, h1, h2, h3⟩ := hd
  unfold tieM
  cases e : cell M d.1.toNat d.2.1.toNat with
  | none => exact bring_sq h (by omega)
  | some g =>
    show Sq2 (if d.2.2 < g.1 then _ else M) n
    split
    · exact bring_sq h (by omega)
    · exact h
theorem ring_none {M : Tab} {d : Df} (h : ringOf M d = none) : ∀ b, bd M d.2.1.toNat d.1.toNat = some b → 0 ≤ d.2.2 + b := by
  intro b hb
  unfold bd at hb
  unfold ringOf at h
  cases e : cell M d.2.1.toNat d.1.toNat with
  | none =>
    rw [e] at hb
    cases hb
  | some g =>
    rw [e] at hb h
    have hb : g.1 = b := Option.some.inj hb
    have h : (if d.2.2 + g.1 < 0 then some g.2 else none) = none := h
    split at h
    · cases h
    · omega
/-- lengths -/
def Short (M : Tab) (L : Nat) : Prop := ∀ row ∈ M, ∀ c, some c ∈ row → c.2.length ≤ L
theorem shorter_len {L : Nat} {old rest : Cell} {th : Int × List Int} {c : Int × List Int} (h1 : ∀ c, old = some c → c.2.length ≤ L) (h2 : ∀ r, rest = some r → th.2.length + r.2.length ≤ L) (h : shorter old th rest = some c) : c.2.length ≤ L := by
  unfold shorter at h
  cases rest with
  | none => exact h1 c h
  | some r =>
    have := h2 r rfl
    cases old with
    | none =>
      cases h
      simp only [joinC, List.length_append]
      omega
    | some o =>
      have h : (if o.1 ≤ th.1 + r.1 then some o else some (joinC th r)) = some c := h
      split at h
      · exact h1 c h
      · cases h
        simp only [joinC, List.length_append]
        omega
theorem bring_short {M : Tab} {u v : Nat} {c k : Int} {L : Nat} (h : Short M L) : Short (bring M u v (c, [k])) (2 * L + 1) := by
  intro row hr x hx
  obtain ⟨known, hk, rfl⟩ := List.mem_map.mp hr
  unfold rowStep at hx
  cases e : known.getD u none with
  | none =>
    rw [e] at hx
    have := h known hk x hx
    omega
  | some b =>
    rw [e] at hx
    have hb : b.2.length ≤ L := h known hk b (by
      rw [List.getD_eq_getElem?_getD] at e
      cases e2 : known[u]? with
      | none =>
        rw [e2] at e
        cases e
      | some y =>
        rw [e2] at e
        have e : y = some b := e
        rw [← e]
        exact List.mem_of_getElem? e2)
    obtain ⟨⟨o, r⟩, hp, e2⟩ := List.mem_map.mp hx
    have ho := (List.of_mem_zip hp).1
    have hr := (List.of_mem_zip hp).2
    refine shorter_len (fun c hc => ?_) (fun c hc => ?_) e2
    · have := h known hk c (hc ▸ ho)
      omega
    · have hm : M.getD v [] ∈ M := by
        rw [List.getD_eq_getElem?_getD] at hr ⊢
        cases e3 : M[v]? with
        | none =>
          rw [e3] at hr
          cases hr
        | some y => exact List.mem_of_getElem? e3
      have := h _ hm c (hc ▸ hr)
      simp only [joinC, List.length_append, List.length_singleton]
      omega
theorem tie_short {M : Tab} {d : Df} {k L : Nat} (h : Short M L) : Short (tieM M d k) (2 * L + 1) := by
  have h' : Short M (2 * L + 1) := fun r hr c hc => by have := h r hr c hc; omega
  unfold tieM
  cases e : cell M d.1.toNat d.2.1.toNat with
  | none => exact bring_short h
  | some g =>
    show Short (if d.2.2 < g.1 then _ else M) _
    split
    · exact bring_short h
    · exact h'
/-! ### a System in the heap -/
structure Spot where
  dx : Addr
  dl : Addr
  tp : Addr
  rs : List Addr
def RowAt (H : Hp) (r : Addr) (row : List Cell) : Prop := ∃ cs, H r = some (.lst cs) ∧ TpAll H cs (row.map cellD)
abbrev sysFs (S : Spot) (n : Nat) : List (Str × V) := [("many", .int n), ("differences", .ref S.dl), ("_table", .ref S.tp)]
structure SysAt (K : PySem.W.Frag) (H : Hp) (x : Addr) (S : Spot) (n : Nat) (ds : List Df) (M : Tab) : Prop where
  ins : H x = some (.ins (He.ga K "System") S.dx (sysFs S n))
  diffs : ∃ us, H S.dl = some (.lst us) ∧ TpAll H us (ds.map dfD)
  tab : H S.tp = some (.lst (S.rs.map V.ref))
  len : S.rs.length = M.length
  rows : ∀ (i : Nat) (r : Addr) (row : List Cell), S.rs[i]? = some r → M[i]? = some row → RowAt H r row
  ap1 : S.dl ∉ S.rs
  ap2 : S.dl ≠ S.tp
  sq : Sq2 M n
/-- what stands, but for some places -/
def KeepBut (A : List Addr) (H H' : Hp) : Prop := ∀ b o, b ∉ A → H b = some o → H' b = some o
theorem KeepBut.refl {A : List Addr} {H : Hp} : KeepBut A H H := fun _ _ _ e => e
theorem KeepBut.trans {A : List Addr} {H H1 H2 : Hp} (h : KeepBut A H H1) (k : KeepBut A H1 H2) : KeepBut A H H2 := fun b o n e => k b o n (h b o n e)
theorem Same.but {A : List Addr} {H H1 : Hp} (s : Same H H1) : KeepBut A H H1 := fun b o _ e => s b o e
theorem Chg.but {A : List Addr} {p : Addr} {H H1 : Hp} (c : Chg p H H1) (h : p ∈ A) : KeepBut A H H1 := fun b o n e => c.at e (fun q => n (q ▸ h))
theorem KeepBut.mono {A B : List Addr} {H H1 : Hp} (h : KeepBut A H H1) (s : ∀ a ∈ A, a ∈ B) : KeepBut B H H1 := fun b o n e => h b o (fun q => n (s b q)) e
/-- not a tuple -/
def noTup : HO → Bool
  | .tup _ => false
  | _ => true
theorem KeepBut.tk {A : List Addr} {H H1 : Hp} (h : KeepBut A H H1) (ht : ∀ a ∈ A, ∃ o, H a = some o ∧ noTup o = true) : TK H H1 := fun a xs e => h a _ (fun q => by
  obtain ⟨o, e2, n⟩ := ht a q
  rw [e] at e2
  cases e2
  cases n) e
theorem SysAt.keep {K : PySem.W.Frag} {H H' : Hp} {x : Addr} {S : Spot} {n : Nat} {ds : List Df} {M : Tab} (s : SysAt K H x S n ds M) {A : List Addr} (k : KeepBut A H H') (tk : TK H H') (h1 : x ∉ A) (h2 : S.dl ∉ A) (h3 : S.tp ∉ A) (h4 : ∀ r ∈ S.rs, r ∉ A) : SysAt K H' x S n ds M := by
  obtain ⟨us, e1, t1⟩ := s.diffs
  refine ⟨k _ _ h1 s.ins, ⟨us, k _ _ h2 e1, t1.tk tk⟩, k _ _ h3 s.tab, s.len, fun i r row hr hm => ?_, s.ap1, s.ap2, s.sq⟩
  obtain ⟨cs, e2, t2⟩ := s.rows i r row hr hm
  exact ⟨cs, k _ _ (h4 r (List.mem_of_getElem? hr)) e2, t2.tk tk⟩
theorem SysAt.same {K : PySem.W.Frag} {H H' : Hp} {x : Addr} {S : Spot} {n : Nat} {ds : List Df} {M : Tab} (s : SysAt K H x S n ds M) (k : Same H H') : SysAt K H' x S n ds M :=
  s.keep (A := []) (Same.but k) k.tk (by simp) (by simp) (by simp) (by simp)
theorem SysAt.get {K : PySem.W.Frag} {H : Hp} {x : Addr} {S : Spot} {n : Nat} {ds : List Df} {M : Tab} (s : SysAt K H x S n ds M) {u : Nat} (hu : u ≤ n) : ∃ r cs, S.rs[u]? = some r ∧ H r = some (.lst cs) ∧ TpAll H cs ((M.getD u []).map cellD) ∧ cs.length = n + 1 := by
  have hm := row_of s.sq hu
  have hl := s.sq.2 _ (List.mem_of_getElem? hm)
  have h1 : u < S.rs.length := by rw [s.len, s.sq.1]; omega
  obtain ⟨cs, e, t⟩ := s.rows u S.rs[u] _ (List.getElem?_eq_getElem h1) hm
  refine ⟨_, cs, List.getElem?_eq_getElem h1, e, t, ?_⟩
  rw [t.length, List.length_map]
  exact hl
theorem row_cell {H : Hp} {M : Tab} {n u v : Nat} {cs : List V} (hq : Sq2 M n) (hu : u ≤ n) (hv : v ≤ n) (t : TpAll H cs ((M.getD u []).map cellD)) : ∃ y, cs[v]? = some y ∧ Tp H y (cellD (cell M u v)) := by
  obtain ⟨row, g1, g2⟩ := cell_at hq hu hv
  have : M.getD u [] = row := by rw [List.getD_eq_getElem?_getD, g1]; rfl
  rw [this] at t
  exact tpAt t g2
theorem cellN {H : Hp} {y : V} {c : Cell} (t : Tp H y (cellD c)) (e : c = none) : y = .non := by
  subst e
  cases t
  rfl
theorem cellS {H : Hp} {y : V} {c : Cell} {p : Int × List Int} (t : Tp H y (cellD c)) (e : c = some p) : ∃ a b, y = .ref a ∧ H a = some (.tup [.int p.1, .ref b]) ∧ H b = some (.tup (p.2.map V.int)) := by
  subst e
  obtain ⟨a, v1, v2, rfl, e, t1, t2⟩ := WQ.tp2 (show Tp H y (.tuple [.int p.1, iT p.2]) from t)
  cases t1
  obtain ⟨b, rfl, e2⟩ := tpI t2
  exact ⟨a, b, rfl, e, e2⟩
theorem cellT {H : Hp} {a b : Addr} {p : Int × List Int} (e : H a = some (.tup [.int p.1, .ref b])) (e2 : H b = some (.tup (p.2.map V.int))) : Tp H (.ref a) (cellD (some p)) := .tup e (.cons (.int _) (.cons (iT_tp e2) .nil))
theorem refs_of {ys : List V} (h : ∀ (j : Nat) (y : V), ys[j]? = some y → ∃ r, y = .ref r) : ∃ rs : List Addr, ys = rs.map V.ref := by
  have : ∀ ys : List V, (∀ y ∈ ys, ∃ r, y = .ref r) → ∃ rs : List Addr, ys = rs.map V.ref := by
    intro ys
    induction ys with
    | nil => exact fun _ => ⟨[], rfl⟩
    | cons y r ih =>
      intro h
      obtain ⟨i, rfl⟩ := h y List.mem_cons_self
      obtain ⟨xs, rfl⟩ := ih fun z hz => h z (List.mem_cons_of_mem _ hz)
      exact ⟨i :: xs, rfl⟩
  refine this ys fun y hy => ?_
  obtain ⟨j, hj, e⟩ := List.getElem_of_mem hy
  exact h j y (by rw [List.getElem?_eq_getElem hj, e])
/-! ### promises -/
section
variable {K : PySem.W.Frag}
def spSysInit (K : PySem.W.Frag) : Sp := fun vs H Q _ => ∃ (x dx : Addr) (n : Nat), vs = [.ref x, .int n] ∧ H x = some (.ins (He.ga K "System") dx []) ∧ n ≤ 1000 ∧
  ∀ H' S, KeepBut [x] H H' → SysAt K H' x S n [] (tab0 n) → S.dx = dx → H S.dl = none → H S.tp = none → (∀ r ∈ S.rs, H r = none) → Q .non H'
def spBound (K : PySem.W.Frag) : Sp := fun vs H Q _ => ∃ (x : Addr) (S : Spot) (n : Nat) (ds : List Df) (M : Tab) (u v : Int), vs = [.ref x, .int u, .int v] ∧ SysAt K H x S n ds M ∧ 0 ≤ u ∧ u ≤ n ∧ 0 ≤ v ∧ v ≤ n ∧ Q (oI (bd M u.toNat v.toNat)) H
def spTie (K : PySem.W.Frag) : Sp := fun vs H Q _ => ∃ (x : Addr) (d : V) (S : Spot) (n : Nat) (ds : List Df) (M : Tab) (df : Df) (L : Nat), vs = [.ref x, d] ∧ SysAt K H x S n ds M ∧ Tp H d (dfD df) ∧ InR n df ∧ ds.length ≤ 1000 ∧ n ≤ 1000 ∧ Short M L ∧ 2 * L + 1 ≤ 5000000 ∧
  (∀ bs, ringOf M df = some bs → ∀ p H', KeepBut [S.dl] H H' → H p = none → H' p = some (.tup (((ds.length : Int) :: bs).map V.int)) → Q (.ref p) H') ∧
  (ringOf M df = none → ∀ H' S', KeepBut [x, S.dl] H H' → SysAt K H' x S' n (ds ++ [df]) (tieM M df ds.length) → S'.dx = S.dx → S'.dl = S.dl → (S'.tp = S.tp ∨ H S'.tp = none) → (∀ r ∈ S'.rs, r ∈ S.rs ∨ H r = none) → Q .non H')
def spBring (K : PySem.W.Frag) : Sp := fun vs H Q _ => ∃ (x st : Addr) (S : Spot) (n : Nat) (ds : List Df) (M : Tab) (u v : Int) (p : Int × List Int) (L : Nat), vs = [.ref x, .int u, .int v, .ref st] ∧ SysAt K H x S n ds M ∧ Tp H (.ref st) (cellD (some p)) ∧ 0 ≤ u ∧ u ≤ n ∧ 0 ≤ v ∧ v ≤ n ∧ n ≤ 1000 ∧ Short M L ∧ 2 * L + p.2.length ≤ 5000000 ∧
  ∀ H' S', KeepBut [x] H H' → SysAt K H' x S' n ds (bring M u.toNat v.toNat p) → S'.dx = S.dx → S'.dl = S.dl → H S'.tp = none → (∀ r ∈ S'.rs, r ∈ S.rs ∨ H r = none) → Q .non H'
def spRowS (K : PySem.W.Frag) : Sp := fun vs H Q _ => ∃ (r bh : Addr) (bf st : V) (cs ks : List V) (row behind : List Cell) (before : Cell) (p : Int × List Int) (L : Nat), vs = [.ref r, bf, st, .ref bh] ∧ H r = some (.lst cs) ∧ TpAll H cs (row.map cellD) ∧ Tp H bf (cellD before) ∧ Tp H st (cellD (some p)) ∧
  H bh = some (.lst ks) ∧ TpAll H ks (behind.map cellD) ∧ row.length = behind.length ∧ row.length ≤ 2000 ∧ (∀ c, before = some c → c.2.length ≤ L) ∧ (∀ c, some c ∈ behind → c.2.length ≤ L) ∧ 2 * L + p.2.length ≤ 5000000 ∧
  ∀ q H' cs', Same H H' → H' q = some (.lst cs') → TpAll H' cs' ((rowStep row before p behind).map cellD) → (q = r ∨ H q = none) → Q (.ref q) H'
def spJoin (K : PySem.W.Frag) : Sp := fun vs H Q _ => ∃ (x y : V) (a b : Int × List Int), vs = [x, y] ∧ Tp H x (cellD (some a)) ∧ Tp H y (cellD (some b)) ∧ a.2.length + b.2.length ≤ 6000000 ∧ ∀ p H', Same H H' → Tp H' p (cellD (some (joinC a b))) → Q p H'
def spShorter (K : PySem.W.Frag) : Sp := fun vs H Q _ => ∃ (x y z : V) (old rest : Cell) (a : Int × List Int), vs = [x, y, z] ∧ Tp H x (cellD old) ∧ Tp H y (cellD (some a)) ∧ Tp H z (cellD rest) ∧ (∀ c, rest = some c → a.2.length + c.2.length ≤ 6000000) ∧ ∀ p H', Same H H' → Tp H' p (cellD (shorter old a rest)) → Q p H'
def spRaised (K : PySem.W.Frag) : Sp := fun vs H Q _ => ∃ (a b e : Addr) (zs : List Int) (us : List V) (ds : List Df) (vals : List Int), vs = [.ref a, .ref b, .ref e] ∧ SqL K H a (zs.map V.int) ∧ H b = some (.lst us) ∧ TpAll H us (ds.map dfD) ∧ H e = some (.lst (vals.map V.int)) ∧ (∀ d ∈ ds, InR vals.length d) ∧ ds.length ≤ 900 ∧ vals.length ≤ 900 ∧
  ∀ p H' us' ds', Same H H' → H p = none → H' p = some (.lst us') → TpAll H' us' ((ds' : List Df).map dfD) → ds'.length = ds.length → (∀ d ∈ ds', InR vals.length d) → Q (.ref p) H'
/-! ### matrices of bounds -/
structure MatAt (H : Hp) (p : Addr) (rs : List Addr) (n : Nat) (B : Nat → Nat → Option Int) : Prop where
  tab : H p = some (.lst (rs.map V.ref))
  len : rs.length = n + 1
  rows : ∀ (i : Nat) (r : Addr), rs[i]? = some r → H r = some (.lst ((List.range (n + 1)).map fun j => oI (B i j)))
theorem MatAt.same {H H' : Hp} {p : Addr} {rs : List Addr} {n : Nat} {B : Nat → Nat → Option Int} (m : MatAt H p rs n B) (s : Same H H') : MatAt H' p rs n B := ⟨s _ _ m.tab, m.len, fun i r g => s _ _ (m.rows i r g)⟩
theorem MatAt.keep {H H' : Hp} {p : Addr} {rs : List Addr} {n : Nat} {B : Nat → Nat → Option Int} (m : MatAt H p rs n B) {A : List Addr} (k : KeepBut A H H') (h1 : p ∉ A) (h2 : ∀ r ∈ rs, r ∉ A) : MatAt H' p rs n B := ⟨k _ _ h1 m.tab, m.len, fun i r g => k _ _ (h2 r (List.mem_of_getElem? g)) (m.rows i r g)⟩
theorem MatAt.cong {H : Hp} {p : Addr} {rs : List Addr} {n : Nat} {B B' : Nat → Nat → Option Int} (m : MatAt H p rs n B) (h : ∀ i j, i ≤ n → j ≤ n → B i j = B' i j) : MatAt H p rs n B' := ⟨m.tab, m.len, fun i r g => by
  have hi := (List.getElem?_eq_some_iff.mp g).1
  have hl := m.len
  rw [m.rows i r g]
  refine congrArg (fun z => some (HO.lst z)) (List.map_congr_left fun j hj => ?_)
  rw [h i j (by omega) (by have := List.mem_range.mp hj; omega)]⟩
theorem ix_mat {K : PySem.W.Frag} {H : Hp} {Q : VK} {p : Addr} {rs : List Addr} {n : Nat} {B : Nat → Nat → Option Int} (m : MatAt H p rs n B) {i : Int} (h0 : 0 ≤ i) (h1 : i ≤ n) (h : ∀ r, rs[i.toNat]? = some r → H r = some (.lst ((List.range (n + 1)).map fun j => oI (B i.toNat j))) → Q (.ref r) H) : rIx K (.ref p) (.int i) H Q := by
  have hl := m.len
  have g := List.getElem?_eq_getElem (l := rs) (i := i.toNat) (by omega)
  exact o_ixL (lst_of m.tab) (atI_of (j := i.toNat) (by omega) (v := .ref rs[i.toNat]) (by rw [List.getElem?_map, g]; rfl)) (h _ g (m.rows _ _ g))
theorem ix_row {K : PySem.W.Frag} {H : Hp} {Q : VK} {r : Addr} {n : Nat} {F : Nat → Option Int} (e : H r = some (.lst ((List.range (n + 1)).map fun j => oI (F j)))) {i : Int} (h0 : 0 ≤ i) (h1 : i ≤ n) (h : Q (oI (F i.toNat)) H) : rIx K (.ref r) (.int i) H Q :=
  o_ixL (lst_of e) (atI_of (j := i.toNat) (by omega) (by rw [List.getElem?_map, List.getElem?_range (by omega)]; rfl)) h
theorem mat_of {H : Hp} {p : Addr} {rs : List Addr} {n : Nat} {B : Nat → Nat → Option Int} (e : H p = some (.lst (rs.map V.ref))) (l : rs.length = n + 1) (h : ∀ (i : Nat) (r : Addr), rs[i]? = some r → H r = some (.lst ((List.range (n + 1)).map fun j => oI (B i j)))) : MatAt H p rs n B := ⟨e, l, h⟩
theorem tab0_bd {n i j : Nat} (hi : i ≤ n) (hj : j ≤ n) : bd (tab0 n) i j = if i = j then some 0 else none := by
  unfold bd
  rw [tab0_cell hi hj]
  by_cases h : i = j
  · rw [if_pos h, if_pos h.symm]
    rfl
  · rw [if_neg h, if_neg (fun e => h e.symm)]
    rfl
theorem tab0_cl (n : Nat) : Cl n (bd (tab0 n)) := ⟨fun i hi => by rw [tab0_bd hi hi, if_pos rfl], fun i k j x y hi hk hj hx hy => by
  rw [tab0_bd hi hk] at hx
  rw [tab0_bd hk hj] at hy
  split at hx
  · split at hy
    · cases hx
      cases hy
      refine ⟨0, ?_, by omega⟩
      rw [tab0_bd hi hj, if_pos (by omega)]
    · cases hy
  · cases hx⟩
theorem tab0_short (n : Nat) : Short (tab0 n) 0 := fun row hr c hc => by
  obtain ⟨u, _, rfl⟩ := List.mem_map.mp hr
  obtain ⟨v, _, e⟩ := List.mem_map.mp hc
  split at e
  · cases e
    exact Nat.le_refl _
  · cases e
theorem tie_cl {M : Tab} {n k : Nat} {d : Df} (h : Sq2 M n) (hc : Cl n (bd M)) (hd : InR n d) (hr : ringOf M d = none) : Cl n (bd (tieM M d k)) := by
  have := hc.relax (u := d.1.toNat) (v := d.2.1.toNat) (c := d.2.2) (by have := hd.2.1; omega) (by have := hd.2.2.2; omega) (ring_none hr)
  exact ⟨fun i hi => by rw [tie_bd h hc hd hi hi]; exact this.diag i hi, fun i k j x y hi hk hj hx hy => by
    rw [tie_bd h hc hd hi hk] at hx
    rw [tie_bd h hc hd hk hj] at hy
    rw [tie_bd h hc hd hi hj]
    exact this.tri i k j x y hi hk hj hx hy⟩
def spJoinM : Sp := fun vs H Q _ => ∃ (a : Addr) (d : V) (rs : List Addr) (n : Nat) (B : Nat → Nat → Option Int) (df : Df), vs = [.ref a, d] ∧ MatAt H a rs n B ∧ Tp H d (dfD df) ∧ InR n df ∧ n ≤ 1000 ∧
  ∀ p H' rs', Same H H' → H p = none → (∀ r ∈ rs', H r = none) → MatAt H' p rs' n (fun i j => relax (B i j) (B i df.1.toNat) df.2.2 (B df.2.1.toNat j)) → Q (.ref p) H'
end
end WT
/-! WG: defs that run while no repr is under way. -/
namespace WG
open PySem PySem.Spec PyProof.Rows L2 Wy WN WQ
/-- as FnOk, but from callers alone in which no repr is under way -/
structure FnG (P : Program) (w : World) (K : PySem.W.Frag) (mg : Str → Option Value) (base : Heap) (k : Nat) (f : Addr) (fd : FuncData) (ps : List Str) (sp : Sp) : Prop where
  len : ∀ vs H Q E, sp vs H Q E → vs.length = ps.length
  run : ∀ (A : Around) (outer : List Env) (s : Shared) (H : Hp) (args : Args) (us : List Value) (vs : List V) (Q : VK) (E : XK), Room k A → A.guards = some [] → Env0 P w K mg base A outer s H →
    BindsTo s fd args (ps.zip us) → Vals vs us → sp vs H Q E → codeAny (model P w) A (.call (.ref f) args) (CR CX0 outer P w H s Q E) s
section
variable {P : Program} {w : World} {K : PySem.W.Frag} {mg : Str → Option Value} {base : Heap} {k : Nat} {f : Addr} {x qual : Str} {st : Stmt} {N ps : List Str} {sp : Sp}
theorem fnG (fd : FuncData) (F : FunD K x qual (defArgs st) (defBody st) (defScope st) [] [] f fd) (S : FnScope N ps (defScope st)) (len : ∀ vs H Q E, sp vs H Q E → vs.length = ps.length)
    (body : ∀ (f : Addr) (cdv : Value) (A : Around) (outer : List Env) (s : Shared) (H : Hp) (vs : List V) (Q : VK) (E : XK), Room k (A.deeper (envOfC qual (defScope st) s.heap.objs.size f cdv)) → (A.deeper (envOfC qual (defScope st) s.heap.objs.size f cdv)).guards = some [] → sp vs H Q E →
      ∃ t, PSs (cxOf CX0 P w K mg base N qual (defScope st) f cdv A outer s H E).nox (defBody st) t ∧ t { nx := fun _ H' => Q .non H', rt := Q } (start N vs) H) : FnG P w K mg base (k + 1) f fd ps sp := by
  obtain ⟨oc, od, dV, kV, doc, pm, an, cdv, ct, osl, rfl, lk, hcd, _, _⟩ := F.ex
  constructor
  · exact len
  · intro A outer s H args us vs Q E room quiet env bd rel told
    have stays : ∀ (b : Addr) (o : Obj), base.get? b = some o → s.heap.get? b = some o := fun b o q => (env.bs b o q).1
    have count := len vs H Q E told
    have heap : K.In s.heap := env.mod.kin.keeps stays
    refine codeAny_call_function room.depth (heap _ _ lk) rfl S.co S.gen rfl (PySem.W.codeRec_of heap hcd) ?_
    refine bd _ _ _ _ (wpAny_newFunctionEnv_cells S.kind ?kinds fun e he s1 made => ?_)
    case kinds =>
      intro y hy
      cases S.par y.1 (List.of_mem_zip (a := y.1) (b := y.2) hy).1 with
      | inl q => exact Or.inl q
      | inr q => exact Or.inr (And.intro q (PySem.W.cellsFrom_some _ _ _ (Or.inl q)))
    subst he
    have nolim : s.heap.NoLimit := env.mod.nolimit.keeps stays
    refine And.intro (nolim.keeps made.toInCall.keep) (codeAny_func ?_)
    obtain ⟨t, d, rd⟩ := body f cdv A outer s H vs Q E (room.deeper _) (by exact quiet) told
    have inv := inv_start (CX := CX0) (E := E) S room.hd env count rel made
    have ran := (PSs.nox d).run [] s1 (start N vs) H _ inv rd
    refine wpAny_mono ran (fun fl s' out => ?_) (fun e s' out => out)
    match fl, out with
    | .ret u, ⟨v, _, H', J, r, z⟩ => exact ⟨v, H', J.os, J.bare, J.base, J.hok, r, z⟩
    | .next, ⟨_, H', J, z⟩ => exact ⟨.non, H', J.os, J.bare, J.base, J.hok, rfl, z⟩
    | .brk, ⟨_, _, _, z⟩ => exact z.elim
    | .cont, ⟨_, _, _, z⟩ => exact z.elim
/-- a def that may be called where no repr is under way -/
structure CalG (P : Program) (w : World) (K : PySem.W.Frag) (mg : Str → Option Value) (base : Heap) (k : Nat) (x : Str) (sp : Sp) : Prop where
  ex : ∃ (f : Addr) (fd : FuncData) (ps : List Str), FnG P w K mg base k f fd ps sp ∧ mg x = some (.ref f) ∧ PySem.W.keepIn K (.ref f) = true ∧ Binds K fd ps []
theorem cal_ofG (F : DefOk K mg x st) (S : FnScope N ps (defScope st)) (hb : ∀ f fd, FunD K x x (defArgs st) (defBody st) (defScope st) [] [] f fd → Binds K fd ps []) (len : ∀ vs H Q E, sp vs H Q E → vs.length = ps.length)
    (body : ∀ (f : Addr) (cdv : Value) (A : Around) (outer : List Env) (s : Shared) (H : Hp) (vs : List V) (Q : VK) (E : XK), Room k (A.deeper (envOfC x (defScope st) s.heap.objs.size f cdv)) → (A.deeper (envOfC x (defScope st) s.heap.objs.size f cdv)).guards = some [] → sp vs H Q E →
      ∃ t, PSs (cxOf CX0 P w K mg base N x (defScope st) f cdv A outer s H E).nox (defBody st) t ∧ t { nx := fun _ H' => Q .non H', rt := Q } (start N vs) H) : CalG P w K mg base (k + 1) x sp := by
  obtain ⟨f, fd, F, hm⟩ := F.ex
  exact ⟨f, fd, ps, fnG fd F S len body, hm, F.kp, hb f fd F⟩
end
section
variable {X : Cx} {k j : Nat} {x : Str} {sp : Sp} {p pos : Pos} {e : Expr} {es : List Expr} {t : TA}
theorem pe_cG (c : CalG X.prog X.w X.K X.mg X.base k x sp) (hr : Room j X.A) (hk : k ≤ j) (hq : X.A.guards = some []) (hg : Gl X x) (ha : PA X (e :: es) t) (hdb : (x == ("__debug__" : Str)) = false := by decide)
    (he : starEach (e :: es) X.env = (false, eval e X.env) :: starEach es X.env := by rfl) (hpl : (backTo pos (starEach es X.env)).any (·.1) = false := by rfl) : PE X (.Call (.Name x p) (e :: es) [] pos) (tCall sp [] C8.E0 t) := by
  obtain ⟨f, fd, ps, F, hm, kp, b⟩ := c.ex
  constructor
  intro pins s σ H Q I h
  refine wpAny_Call_Name_kw (ld_glob I hg hm ?_ hdb)
  refine PySem.W.callWith_K (h₀ := X.base) I.ok.mod.kin kp ?_ he hpl
  refine thn (ha.run pos pins s σ H _ I h) fun us s1 ⟨vs, H1, I1, r, q⟩ => And.intro I1.kIn ?_
  have q : sp (vs ++ []) H1 Q C8.E0 := q
  rw [List.append_nil] at q
  have fits : us.length = ps.length := r.length.symm.trans (F.len vs H1 Q C8.E0 q)
  have bt := b s1 us I1.kIn (by rw [List.append_nil]; exact fits)
  rw [List.append_nil] at bt
  refine wpAny_call (codeAny_mono (F.run X.A X.stack s1 H1 ⟨us, []⟩ us vs Q C8.E0 (hr.mono hk) hq I1.env0 bt r q) ?_)
  intro res s' out
  match res, out with
  | .error _, z => exact z.elim
  | .ok (.ret _), z => exact I1.after z
  | .ok .next, z => exact z.elim
  | .ok .brk, z => exact z.elim
  | .ok .cont, z => exact z.elim
theorem call_reprG (hq : X.A.guards = some []) (hu : X.A.units + 64 < cLine) : CallR X (.builtin "repr") (rRepr X.K) := by
  intro pins s σ H xs us Q I r h
  obtain ⟨a, d, rfl, hd, hs, hn, hdp, hz, q⟩ := h
  obtain ⟨u, eu, rx⟩ := vals1 r
  subst eu
  obtain rfl : u = Value.ref a := rx
  obtain ⟨as, rd⟩ := Dp.reads I d _ _ hd rfl
  refine repr_of_reads' (h₀ := s.heap) rd hs (fun z => by rw [hn] at z; cases z) hq (by omega) (fun _ _ e => e) (fun h' u tk keep => ?_) hz
  exact ⟨.str d.shown, H, I.kept keep, ⟨u, rfl⟩, q⟩
end
/-! ### the end -/
section
variable {P : Program} {w : World} {K : PySem.W.Frag} {mg mb : Str → Option Value} {k : Nat} {fa a : Addr} {fd : FuncData} {x : Str} {sp : Sp} {s : Shared} {vs : List Value} {ns : List Int}
/-- the entry of the law, over what is not tracked -/
theorem enter (kin : K.In s.heap) (glob : s.heap.Ns mainGlobals mg) (blt : s.heap.Ns builtinsNs mb) (boot : ∀ x : Str, x ≠ "__name__" → mb x = bootBuiltins x) (nolim : s.heap.NoLimit) (gens : s.gens = #[])
    (obj : s.heap.get? a = some { cls := .type "list", data := .seq vs.toArray }) {H : Hp} (hok : HOk P w H s.heap) (one : ∀ b, H b ≠ none → b = a) (own : H a ≠ none → K.lookup a = none) :
    Env0 P w K mg (hidT s.heap H) callerA [] s H := by
  have free : ∀ b : Addr, b ≠ a → H b = none := fun b n => Classical.byContradiction fun z => n (one b z)
  have spaces : ∀ {b : Addr} {m : Str → Option Value}, s.heap.Ns b m → (hidT s.heap H).Ns b m := by
    rintro b m ⟨o, es, ep, e, d, r⟩
    refine ⟨o, es, ep, hidT_get e (free b fun z => ?_), d, r⟩
    rw [z, obj] at e
    rw [← Option.some.inj e] at d
    cases d
  have frag : K.In (hidT s.heap H) := by
    intro b o e
    by_cases q : H b = none
    · exact hidT_get (kin b o e) q
    · rw [one b q] at e q
      rw [own q] at e
      cases e
  obtain ⟨mc, l1, l2⟩ := nolim
  constructor
  · rfl
  · exact { kin := frag, glob := spaces glob, blt := ⟨mb, spaces blt, boot⟩, nolimit := ⟨mc, spaces l1, l2⟩ }
  · exact fun b o e => of_hidT e
  · exact Nat.le_of_eq (hidT_size s.heap H)
  · trivial
  · intro b hb
    simp [frs] at hb
  · exact hok
  · exact .of_eq gens
theorem lawG (kin : K.In s.heap) (glob : s.heap.Ns mainGlobals mg) (blt : s.heap.Ns builtinsNs mb) (boot : ∀ x : Str, x ≠ "__name__" → mb x = bootBuiltins x) (nolim : s.heap.NoLimit) (gens : s.gens = #[])
    (obj : s.heap.get? a = some { cls := .type "list", data := .seq vs.toArray }) (inn : IntsAre vs ns) (few : ns.length ≤ sizeLine) (room : Room k callerA) (F : ∀ base : Heap, FnG P w K mg base k fa fd [x] sp)
    (bd : ∀ (s : Shared) (u : Value), BindsTo s fd ⟨[u], []⟩ [(x, u)]) (told : ∀ H : Hp, SqL K H a (ns.map V.int) → sp [.ref a] H (fun v _ => v = .bl true) fun _ _ _ => False) :
    codeAny (model P w) callerA (.call (.ref fa) ⟨[.ref a], []⟩) (fun r s' => r = .ok (.ret (.bool true)) ∧ OldK s.heap s'.heap ∧ s'.os = s.os ∧ AllBare s'.gens) s := by
  have rel := vals_ints inn
  have count := inn.length
  obtain ⟨H, hok, one, own, frz, seq⟩ : ∃ H : Hp, HOk P w H s.heap ∧ (∀ b, H b ≠ none → b = a) ∧ (H a ≠ none → K.lookup a = none) ∧ (∀ b u, H b = some u → ∃ o xs, u = .frz o (.lst xs)) ∧ SqL K H a (ns.map V.int) := by
    cases lk : K.lookup a with
    | some o =>
      have e := kin a o lk
      rw [obj] at e
      cases e
      refine ⟨fun _ => none, (fun b u z => by cases z), (fun b z => absurd rfl z), (fun z => absurd rfl z), (fun b u z => by cases z), .inr ⟨_, vs.toArray, _, lk, rfl, rfl, rfl, ?_, ?_⟩⟩
      · rw [List.size_toArray, count]
        exact few
      · simpa using rel
    | none =>
      let O : Obj := { cls := .type "list", data := .seq vs.toArray }
      have at_ : ∀ b u, (if b = a then some (HO.frz O (.lst (ns.map V.int))) else none) = some u → b = a ∧ u = .frz O (.lst (ns.map V.int)) := fun b u z => by
        by_cases q : b = a
        · rw [if_pos q] at z
          exact ⟨q, (Option.some.inj z).symm⟩
        · rw [if_neg q] at z
          cases z
      refine ⟨fun b => if b = a then some (.frz O (.lst (ns.map V.int))) else none, fun b u z => ?_, fun b z => ?_, fun _ => rfl, fun b u z => ⟨_, _, (at_ b u z).2⟩, .inl (.inr ⟨O, if_pos rfl⟩)⟩
      · obtain ⟨rfl, rfl⟩ := at_ b u z
        exact ⟨obj, by rw [List.length_map]; exact few, vs, _, rel, obj⟩
      · by_cases q : b = a
        · exact q
        · exact absurd (if_neg q) z
  have env := enter (P := P) (w := w) kin glob blt boot nolim gens obj hok one own
  refine codeAny_mono ((F _).run callerA [] s H ⟨[.ref a], []⟩ [.ref a] [.ref a] _ _ room rfl env (bd s (.ref a)) (.cons rfl .nil) (told H seq)) ?_
  intro res s' out
  match res, out with
  | .error _, z => exact z.elim
  | .ok .next, z => exact z.elim
  | .ok .brk, z => exact z.elim
  | .ok .cont, z => exact z.elim
  | .ok (.ret u), ⟨v, H', os, bare, un, hok', r, z⟩ =>
    obtain rfl : v = .bl true := z
    obtain rfl : u = Value.bool true := r
    refine ⟨rfl, OldK.of_keep fun b o e => ?_, os, bare⟩
    cases q : H b with
    | none => exact un.keep b o e q (by simp [frs]) (by simp)
    | some u =>
      obtain ⟨ob, xs, rfl⟩ := frz b u q
      have before := (hok b _ q).1
      rw [e] at before
      rw [Option.some.inj before]
      exact (hok' b _ (un.frzs b ob _ q)).1
theorem walkG {l : PySem.W.OpenLaw} {n : Nat} {q : Program} {loose : List Str} {XP : (Str → Option Value) → Heap → Prop} {YP : World → Heap → Prop} {d : DefRec} (most : l.most = some n) (small : n ≤ sizeLine) (plain : d.params.defaults = []) (room : Room k callerA)
    (F : ∀ (w : World) (mg : Str → Option Value) (fa : Addr) (h : Heap), YP w h → h.Ns mainGlobals mg → mg d.name = some (.ref fa) → ∃ (K : PySem.W.Frag) (fd : FuncData) (sp : Sp), K.In h ∧ (∀ (s : Shared) (u : Value), BindsTo s fd ⟨[u], []⟩ [(x, u)]) ∧
      (∀ (H : Hp) (a : Addr) (ns : List Int), ns.length ≤ n → SqL K H a (ns.map V.int) → sp [.ref a] H (fun v _ => v = .bl true) fun _ _ _ => False) ∧ ∀ base : Heap, FnG l.prog w K mg base k fa fd [x] sp) :
    PySem.W.WalkO q loose XP YP l.row.toRowW d [] (fun f vs => PySem.call f vs) := by
  refine Att.attach_call most plain ?_
  intro w s₀ s₁ mg mb fa o pm cd doc a vs ns G Y ho hd hcd hmg obj inn len gens
  obtain ⟨K, fd, sp, kin, bd, told, fs⟩ := F w mg fa _ Y G.T.g hmg
  exact lawG kin G.T.g G.T.b G.T.builtins G.T.nolimit gens obj inn (Nat.le_trans len small) room fs bd fun H hS => told H a ns len hS
end
end WG
/-! WB: numbers with bounds, and their texts. -/
namespace WB
open PySem PySem.Spec PyProof.Rows L2 Wy WN WQ WS WC
/-- at most so great -/
def Bd (n : Nat) (i : Int) : Prop := i.natAbs < 10 ^ n
theorem Bd.iff {n : Nat} {i : Int} : Bd n i ↔ -(10 ^ n : Nat) < i ∧ i < (10 ^ n : Nat) := by
  unfold Bd
  omega
def DfB (n : Nat) (d : Df) : Prop := Bd n d.1 ∧ Bd n d.2.1 ∧ Bd n d.2.2
def spWtB : Sp := fun vs H Q _ => ∃ d : Int, vs = [.int d] ∧ ∀ r : Int, Bd 40 r → Q (.int r) H
def spDiffsB (K : PySem.W.Frag) : Sp := fun vs H Q _ => ∃ (a : Addr) (zs : List Int) (pl : Int) (n m : Nat), vs = [.ref a, .int pl, .int n, .int m] ∧ SqL K H a (zs.map V.int) ∧ n ≤ 100 ∧ m ≤ 1000 ∧
  ∀ p us H' ds, Same H H' → H p = none → H' p = some (.lst us) → TpAll H' us ((ds : List Df).map dfD) → ds.length = n → (∀ d ∈ ds, InR m d ∧ Bd 40 d.2.2) → Q (.ref p) H'
/-! ### texts of data -/
/-- data whose text is short: depth, weight -/
structure Rp (k n : Nat) (d : PyData) : Prop where
  sh : d.showable = true
  hd : d.hasDict = false
  lv : d.leavesShort 60 = true
  wt : d.weight ≤ n
  dp : d.depth ≤ k
theorem Rp.mono {k n k' n' : Nat} {d : PyData} (r : Rp k n d) (h : k ≤ k') (h' : n ≤ n') : Rp k' n' d := ⟨r.sh, r.hd, r.lv, Nat.le_trans r.wt h', Nat.le_trans r.dp h⟩
theorem rp_int {i : Int} (h : Bd 58 i) : Rp 0 200 (.int i) := by
  have hp : 10 ^ 58 ≤ 2 ^ 193 := by decide +kernel
  have h2 : i.natAbs.log2 < 193 := by
    by_cases h0 : i.natAbs = 0
    · rw [h0]
      decide
    · rw [Nat.log2_lt h0]
      exact Nat.lt_of_lt_of_le h hp
  refine ⟨?_, rfl, ?_, ?_, by simp [PyData.depth]⟩
  · simp only [PyData.showable, decide_eq_true_eq]
    omega
  · have e := PySem.int_text_length_le10 (k := 58) (by decide) h
    show decide ((Str.ofString (toString i)).length ≤ 60) = true
    rw [decide_eq_true_eq, PySem.ofString_length]
    omega
  · show (if i == 0 then 0 else i.natAbs.log2 + 1) ≤ 200
    split <;> omega
theorem all_parts {k n : Nat} : ∀ {ds : List PyData}, (∀ x ∈ ds, Rp k n x) → PyData.showableAll ds = true ∧ PyData.hasDictAll ds = false ∧ PyData.leavesShortAll 60 ds = true ∧ PyData.weightAll ds ≤ ds.length * (n + 1) ∧ PyData.depthAll ds ≤ k
  | [], _ => ⟨rfl, rfl, rfl, Nat.zero_le _, by simp [PyData.depthAll]⟩
  | x :: xs, h => by
    have h1 := h x List.mem_cons_self
    obtain ⟨a1, a2, a3, a4, a5⟩ := all_parts fun y hy => h y (List.mem_cons_of_mem _ hy)
    refine ⟨?_, ?_, ?_, ?_, ?_⟩
    · simp only [PyData.showableAll, h1.sh, a1, Bool.and_self]
    · simp only [PyData.hasDictAll, h1.hd, a2, Bool.or_self]
    · simp only [PyData.leavesShortAll, h1.lv, a3, Bool.and_self]
    · have := h1.wt
      simp only [PyData.weightAll, List.length_cons]
      rw [Nat.add_mul]
      omega
    · have := h1.dp
      simp only [PyData.depthAll]
      omega
theorem rp_tup {k n : Nat} {ds : List PyData} (h : ∀ x ∈ ds, Rp k n x) : Rp (k + 1) (ds.length * (n + 1)) (.tuple ds) := by
  obtain ⟨a1, a2, a3, a4, a5⟩ := all_parts h
  exact ⟨by simp only [PyData.showable, a1], by simp only [PyData.hasDict, a2], by simp only [PyData.leavesShort, a3], by simp only [PyData.weight]; exact a4, by simp only [PyData.depth]; omega⟩
theorem rp_lst {k n : Nat} {ds : List PyData} (h : ∀ x ∈ ds, Rp k n x) : Rp (k + 1) (ds.length * (n + 1)) (.list ds) := by
  obtain ⟨a1, a2, a3, a4, a5⟩ := all_parts h
  exact ⟨by simp only [PyData.showable, a1], by simp only [PyData.hasDict, a2], by simp only [PyData.leavesShort, a3], by simp only [PyData.weight]; exact a4, by simp only [PyData.depth]; omega⟩
theorem rp_len {k n : Nat} {d : PyData} (r : Rp k n d) (h : n ≤ 200000) : d.shown.length ≤ sizeLine := by
  have h1 := PyData.shown_le 60 (by decide) d r.lv
  have h2 := r.wt
  have hz : sizeLine = 16777216 := sizeLine_eq
  have h3 : (60 + 2) * d.weight ≤ 62 * 200000 := Nat.mul_le_mul (by decide) (by omega)
  omega
theorem rp_df {d : Df} (h : DfB 58 d) : Rp 1 603 (dfD d) := rp_tup (ds := [.int d.1, .int d.2.1, .int d.2.2]) (n := 200) fun x hx => by
  simp only [List.mem_cons, List.not_mem_nil, or_false] at hx
  rcases hx with rfl | rfl | rfl
  · exact rp_int h.1
  · exact rp_int h.2.1
  · exact rp_int h.2.2
/-- repr of data -/
theorem b_repr {K : PySem.W.Frag} {H : Hp} {Q : VK} {a : Addr} {d : PyData} {k n : Nat} (hd : Dp K H (.ref a) d) (r : Rp k n d) (hk : k ≤ 60) (hn : n ≤ 200000) (h : Q (.str d.shown) H) : rRepr K [.ref a] H Q :=
  ⟨a, d, rfl, hd, r.sh, r.hd, Nat.le_trans r.dp hk, rp_len r hn, h⟩
end WB
namespace K14
open PySem PySem.Spec PyProof.Rows L2 Wy
/-! ### the text -/
def top (i : Nat) : Stmt := PySem.Challenge.pw_wayorring_k14_chains.main.body.getD i (.Pass ⟨0, 0, 0, 0⟩)
abbrev s_chain_sum : Stmt := top 1
abbrev n_chain_sum : List Str := ["differences", "numbers", "number", "first", "last", "total", "u", "v", "c"]
theorem sc_chain_sum : FnScope n_chain_sum ["differences", "numbers"] (defScope s_chain_sum) := C8.fnScope_by (by decide +kernel)
abbrev s_is_ring : Stmt := top 2
abbrev n_is_ring : List Str := ["differences", "numbers", "found"]
theorem sc_is_ring : FnScope n_is_ring ["differences", "numbers"] (defScope s_is_ring) := C8.fnScope_by (by decide +kernel)
abbrev s_floor_value : Stmt := top 3
abbrev n_floor_value : List Str := ["differences", "numbers", "unknown", "found"]
theorem sc_floor_value : FnScope n_floor_value ["differences", "numbers", "unknown"] (defScope s_floor_value) := C8.fnScope_by (by decide +kernel)
abbrev s_keeps : Stmt := top 4
abbrev n_keeps : List Str := ["differences", "values", "known", "u", "v", "c"]
theorem sc_keeps : FnScope n_keeps ["differences", "values"] (defScope s_keeps) := C8.fnScope_by (by decide +kernel)
abbrev s_law_cell : Stmt := top 6
abbrev n_law_cell : List Str := ["script", "k"]
theorem sc_law_cell : FnScope n_law_cell ["script", "k"] (defScope s_law_cell) := C8.fnScope_by (by decide +kernel)
abbrev s_law_draws : Stmt := top 7
abbrev n_law_draws : List Str := ["script", "place", "sizes", "primes", "cell", "rest", "draws", "k", "first", "mixed"]
theorem sc_law_draws : FnScope n_law_draws ["script", "place", "sizes"] (defScope s_law_draws) := C8.fnScope_by (by decide +kernel)
abbrev s_law_is_integer : Stmt := top 8
abbrev n_law_is_integer : List Str := ["value"]
theorem sc_law_is_integer : FnScope n_law_is_integer ["value"] (defScope s_law_is_integer) := C8.fnScope_by (by decide +kernel)
abbrev s_law_sum : Stmt := top 9
abbrev n_law_sum : List Str := ["differences", "numbers", "total", "k"]
theorem sc_law_sum : FnScope n_law_sum ["differences", "numbers"] (defScope s_law_sum) := C8.fnScope_by (by decide +kernel)
abbrev s_law_kept : Stmt := top 10
abbrev n_law_kept : List Str := ["differences", "values", "level", "u", "v", "c"]
theorem sc_law_kept : FnScope n_law_kept ["differences", "values"] (defScope s_law_kept) := C8.fnScope_by (by decide +kernel)
abbrev s_law_weight : Stmt := top 11
abbrev n_law_weight : List Str := ["draw", "kind", "rest"]
theorem sc_law_weight : FnScope n_law_weight ["draw"] (defScope s_law_weight) := C8.fnScope_by (by decide +kernel)
abbrev s_law_differences : Stmt := top 12
abbrev n_law_differences : List Str := ["script", "place", "count", "many", "differences", "k", "draws"]
theorem sc_law_differences : FnScope n_law_differences ["script", "place", "count", "many"] (defScope s_law_differences) := C8.fnScope_by (by decide +kernel)
abbrev s_law_going : Stmt := top 13
abbrev n_law_going : List Str := ["script", "differences", "many", "k", "draws", "numbers", "options", "j"]
theorem sc_law_going : FnScope n_law_going ["script", "differences", "many"] (defScope s_law_going) := C8.fnScope_by (by decide +kernel)
abbrev s_law_path : Stmt := top 14
abbrev n_law_path : List Str := ["script", "differences", "many", "closed", "draws", "weights", "nodes", "count", "edges", "target", "total", "numbers", "at", "draw", "k", "edge"]
theorem sc_law_path : FnScope n_law_path ["script", "differences", "many", "closed"] (defScope s_law_path) := C8.fnScope_by (by decide +kernel)
abbrev s_law_drawn : Stmt := top 15
abbrev n_law_drawn : List Str := ["script", "shape", "differences", "many", "draws", "numbers", "at", "draw"]
theorem sc_law_drawn : FnScope n_law_drawn ["script", "shape", "differences", "many"] (defScope s_law_drawn) := C8.fnScope_by (by decide +kernel)
abbrev s_law_same : Stmt := top 16
abbrev n_law_same : List Str := ["actual", "expected"]
theorem sc_law_same : FnScope n_law_same ["actual", "expected"] (defScope s_law_same) := C8.fnScope_by (by decide +kernel)
abbrev s_law_is_triple : Stmt := top 17
abbrev n_law_is_triple : List Str := ["actual", "expected", "k"]
theorem sc_law_is_triple : FnScope n_law_is_triple ["actual", "expected"] (defScope s_law_is_triple) := C8.fnScope_by (by decide +kernel)
abbrev s_law_tells : Stmt := top 18
abbrev n_law_tells : List Str := ["value", "expected"]
theorem sc_law_tells : FnScope n_law_tells ["value", "expected"] (defScope s_law_tells) := C8.fnScope_by (by decide +kernel)
abbrev s_law_raised : Stmt := top 19
abbrev n_law_raised : List Str := ["script", "differences", "values", "k", "draws", "level", "raised", "u", "v", "c"]
theorem sc_law_raised : FnScope n_law_raised ["script", "differences", "values"] (defScope s_law_raised) := C8.fnScope_by (by decide +kernel)
abbrev s_law : Stmt := top 20
abbrev n_law : List Str := ["script", "shape", "many", "count", "differences", "numbers", "values", "at", "u", "v", "c", "given", "before", "due", "unknown", "floor", "kept", "draw", "k"]
theorem sc_law : FnScope n_law ["script"] (defScope s_law) := C8.fnScope_by (by decide +kernel)
/-! ### what the top has made -/
structure Tx (K : PySem.W.Frag) (mg : Str → Option Value) : Prop where
  d_chain_sum : DefOk K mg "chain_sum" s_chain_sum
  d_is_ring : DefOk K mg "is_ring" s_is_ring
  d_floor_value : DefOk K mg "floor_value" s_floor_value
  d_keeps : DefOk K mg "keeps" s_keeps
  d_law_cell : DefOk K mg "_law_cell" s_law_cell
  d_law_draws : DefOk K mg "_law_draws" s_law_draws
  d_law_is_integer : DefOk K mg "_law_is_integer" s_law_is_integer
  d_law_sum : DefOk K mg "_law_sum" s_law_sum
  d_law_kept : DefOk K mg "_law_kept" s_law_kept
  d_law_weight : DefOk K mg "_law_weight" s_law_weight
  d_law_differences : DefOk K mg "_law_differences" s_law_differences
  d_law_going : DefOk K mg "_law_going" s_law_going
  d_law_path : DefOk K mg "_law_path" s_law_path
  d_law_drawn : DefOk K mg "_law_drawn" s_law_drawn
  d_law_same : DefOk K mg "_law_same" s_law_same
  d_law_is_triple : DefOk K mg "_law_is_triple" s_law_is_triple
  d_law_tells : DefOk K mg "_law_tells" s_law_tells
  d_law_raised : DefOk K mg "_law_raised" s_law_raised
  d_law : DefOk K mg "law" s_law
  z_abs : mg "abs" = none
  z_all : mg "all" = none
  z_bool : mg "bool" = none
  z_int : mg "int" = none
  z_isinstance : mg "isinstance" = none
  z_len : mg "len" = none
  z_list : mg "list" = none
  z_max : mg "max" = none
  z_range : mg "range" = none
  z_repr : mg "repr" = none
  z_sum : mg "sum" = none
  z_tuple : mg "tuple" = none
/-! ### the head -/
def fn : List He.DefD := [⟨("chain_sum", none), "chain_sum", "chain_sum", defArgs s_chain_sum, defBody s_chain_sum, defScope s_chain_sum, [], []⟩, ⟨("is_ring", none), "is_ring", "is_ring", defArgs s_is_ring, defBody s_is_ring, defScope s_is_ring, [], []⟩, ⟨("floor_value", none), "floor_value", "floor_value", defArgs s_floor_value, defBody s_floor_value, defScope s_floor_value, [], []⟩, ⟨("keeps", none), "keeps", "keeps", defArgs s_keeps, defBody s_keeps, defScope s_keeps, [], []⟩, ⟨("_law_cell", none), "_law_cell", "_law_cell", defArgs s_law_cell, defBody s_law_cell, defScope s_law_cell, [], []⟩, ⟨("_law_draws", none), "_law_draws", "_law_draws", defArgs s_law_draws, defBody s_law_draws, defScope s_law_draws, [], []⟩, ⟨("_law_is_integer", none), "_law_is_integer", "_law_is_integer", defArgs s_law_is_integer, defBody s_law_is_integer, defScope s_law_is_integer, [], []⟩, ⟨("_law_sum", none), "_law_sum", "_law_sum", defArgs s_law_sum, defBody s_law_sum, defScope s_law_sum, [], []⟩, ⟨("_law_kept", none), "_law_kept", "_law_kept", defArgs s_law_kept, defBody s_law_kept, defScope s_law_kept, [], []⟩, ⟨("_law_weight", none), "_law_weight", "_law_weight", defArgs s_law_weight, defBody s_law_weight, defScope s_law_weight, [], []⟩, ⟨("_law_differences", none), "_law_differences", "_law_differences", defArgs s_law_differences, defBody s_law_differences, defScope s_law_differences, [], []⟩, ⟨("_law_going", none), "_law_going", "_law_going", defArgs s_law_going, defBody s_law_going, defScope s_law_going, [], []⟩, ⟨("_law_path", none), "_law_path", "_law_path", defArgs s_law_path, defBody s_law_path, defScope s_law_path, [], []⟩, ⟨("_law_drawn", none), "_law_drawn", "_law_drawn", defArgs s_law_drawn, defBody s_law_drawn, defScope s_law_drawn, [], []⟩, ⟨("_law_same", none), "_law_same", "_law_same", defArgs s_law_same, defBody s_law_same, defScope s_law_same, [], []⟩, ⟨("_law_is_triple", none), "_law_is_triple", "_law_is_triple", defArgs s_law_is_triple, defBody s_law_is_triple, defScope s_law_is_triple, [], []⟩, ⟨("_law_tells", none), "_law_tells", "_law_tells", defArgs s_law_tells, defBody s_law_tells, defScope s_law_tells, [], []⟩, ⟨("_law_raised", none), "_law_raised", "_law_raised", defArgs s_law_raised, defBody s_law_raised, defScope s_law_raised, [], []⟩, ⟨("law", none), "law", "law", defArgs s_law, defBody s_law, defScope s_law, [], []⟩]
def fa : List He.Fa := [.glo "chain_sum", .glo "is_ring", .glo "floor_value", .glo "keeps", .glo "_law_cell", .glo "_law_draws", .glo "_law_is_integer", .glo "_law_sum", .glo "_law_kept", .glo "_law_weight", .glo "_law_differences", .glo "_law_going", .glo "_law_path", .glo "_law_drawn", .glo "_law_same", .glo "_law_is_triple", .glo "_law_tells", .glo "_law_raised", .glo "law", .free "abs", .free "all", .free "bool", .free "int", .free "isinstance", .free "len", .free "list", .free "max", .free "range", .free "repr", .free "sum", .free "tuple"]
def ts : List He.Tab := []
def ex (K : PySem.W.Frag) : Bool := true
abbrev R : PySem.W.OpenRow := PySem.W.OpenLaw.row PySem.Challenge.rw_wayorring_k14_chains
abbrev hk : PySem.W.Hook := He.hookX 4 fa fn ts [] ex
def ob (s : PySem.W.SharedT) : He.AlX := He.obsX 4 fa fn ts [] ex (HandSHeadRun.getT s)
theorem ob_eq (s : PySem.W.SharedT) : ob s = hk.obs s.abs := He.obsX_eq (HandSHeadRun.getT_eq s)
def loose : List Str := (["chain_sum", "is_ring", "floor_value", "keeps", "_law_cell", "_law_draws", "_law_is_integer", "_law_sum", "_law_kept", "_law_weight", "_law_differences", "_law_going", "_law_path", "_law_drawn", "_law_same", "_law_is_triple", "_law_tells", "_law_raised"] : List Str)
set_option maxHeartbeats 0 in
theorem run (w : World) : HandSHeadRun.RunEq R (PySem.W.view R.prog [20]) hk ob 20000 loose w := by
  intro os
  kernel_rfl
theorem tx_of {w : World} {K : PySem.W.Frag} {h h2 : Heap} {mg : Str → Option Value} (X : K.In h) (G : h.Ns mainGlobals mg) (c2 : He.SaysX fa fn ts [] ex w h2 K) : Tx K mg := by
  have c := c2.t.d
  have m : ex K = true := c2.more
  refine ⟨?_, ?_, ?_, ?_, ?_, ?_, ?_, ?_, ?_, ?_, ?_, ?_, ?_, ?_, ?_, ?_, ?_, ?_, ?_, ?_, ?_, ?_, ?_, ?_, ?_, ?_, ?_, ?_, ?_, ?_, ?_⟩
  · obtain ⟨fd, F⟩ := c.def_ 0 rfl
    exact ⟨_, fd, F, He.glo_ok X G (c.fact 0 (f := .glo "chain_sum") rfl)⟩
  · obtain ⟨fd, F⟩ := c.def_ 1 rfl
    exact ⟨_, fd, F, He.glo_ok X G (c.fact 1 (f := .glo "is_ring") rfl)⟩
  · obtain ⟨fd, F⟩ := c.def_ 2 rfl
    exact ⟨_, fd, F, He.glo_ok X G (c.fact 2 (f := .glo "floor_value") rfl)⟩
  · obtain ⟨fd, F⟩ := c.def_ 3 rfl
    exact ⟨_, fd, F, He.glo_ok X G (c.fact 3 (f := .glo "keeps") rfl)⟩
  · obtain ⟨fd, F⟩ := c.def_ 4 rfl
    exact ⟨_, fd, F, He.glo_ok X G (c.fact 4 (f := .glo "_law_cell") rfl)⟩
  · obtain ⟨fd, F⟩ := c.def_ 5 rfl
    exact ⟨_, fd, F, He.glo_ok X G (c.fact 5 (f := .glo "_law_draws") rfl)⟩
  · obtain ⟨fd, F⟩ := c.def_ 6 rfl
    exact ⟨_, fd, F, He.glo_ok X G (c.fact 6 (f := .glo "_law_is_integer") rfl)⟩
  · obtain ⟨fd, F⟩ := c.def_ 7 rfl
    exact ⟨_, fd, F, He.glo_ok X G (c.fact 7 (f := .glo "_law_sum") rfl)⟩
  · obtain ⟨fd, F⟩ := c.def_ 8 rfl
    exact ⟨_, fd, F, He.glo_ok X G (c.fact 8 (f := .glo "_law_kept") rfl)⟩
  · obtain ⟨fd, F⟩ := c.def_ 9 rfl
    exact ⟨_, fd, F, He.glo_ok X G (c.fact 9 (f := .glo "_law_weight") rfl)⟩
  · obtain ⟨fd, F⟩ := c.def_ 10 rfl
    exact ⟨_, fd, F, He.glo_ok X G (c.fact 10 (f := .glo "_law_differences") rfl)⟩
  · obtain ⟨fd, F⟩ := c.def_ 11 rfl
    exact ⟨_, fd, F, He.glo_ok X G (c.fact 11 (f := .glo "_law_going") rfl)⟩
  · obtain ⟨fd, F⟩ := c.def_ 12 rfl
    exact ⟨_, fd, F, He.glo_ok X G (c.fact 12 (f := .glo "_law_path") rfl)⟩
  · obtain ⟨fd, F⟩ := c.def_ 13 rfl
    exact ⟨_, fd, F, He.glo_ok X G (c.fact 13 (f := .glo "_law_drawn") rfl)⟩
  · obtain ⟨fd, F⟩ := c.def_ 14 rfl
    exact ⟨_, fd, F, He.glo_ok X G (c.fact 14 (f := .glo "_law_same") rfl)⟩
  · obtain ⟨fd, F⟩ := c.def_ 15 rfl
    exact ⟨_, fd, F, He.glo_ok X G (c.fact 15 (f := .glo "_law_is_triple") rfl)⟩
  · obtain ⟨fd, F⟩ := c.def_ 16 rfl
    exact ⟨_, fd, F, He.glo_ok X G (c.fact 16 (f := .glo "_law_tells") rfl)⟩
  · obtain ⟨fd, F⟩ := c.def_ 17 rfl
    exact ⟨_, fd, F, He.glo_ok X G (c.fact 17 (f := .glo "_law_raised") rfl)⟩
  · obtain ⟨fd, F⟩ := c.def_ 18 rfl
    exact ⟨_, fd, F, He.glo_ok X G (c.fact 18 (f := .glo "law") rfl)⟩
  · exact He.free_ok X G (c.fact 19 (f := .free "abs") rfl)
  · exact He.free_ok X G (c.fact 20 (f := .free "all") rfl)
  · exact He.free_ok X G (c.fact 21 (f := .free "bool") rfl)
  · exact He.free_ok X G (c.fact 22 (f := .free "int") rfl)
  · exact He.free_ok X G (c.fact 23 (f := .free "isinstance") rfl)
  · exact He.free_ok X G (c.fact 24 (f := .free "len") rfl)
  · exact He.free_ok X G (c.fact 25 (f := .free "list") rfl)
  · exact He.free_ok X G (c.fact 26 (f := .free "max") rfl)
  · exact He.free_ok X G (c.fact 27 (f := .free "range") rfl)
  · exact He.free_ok X G (c.fact 28 (f := .free "repr") rfl)
  · exact He.free_ok X G (c.fact 29 (f := .free "sum") rfl)
  · exact He.free_ok X G (c.fact 30 (f := .free "tuple") rfl)
def spLaw (K : PySem.W.Frag) : Sp := fun vs H Q _ => ∃ (a : Addr) (ns : List Int), vs = [.ref a] ∧ SqL K H a (ns.map V.int) ∧ ns.length ≤ 63 ∧ ∀ H', Q (.bl true) H'
end K14
namespace K14
open PySem PySem.Spec PyProof.Rows L2 Wy WN

-- WIDE
section
variable {P : Program} {w : World} {K : PySem.W.Frag} {mg : Str → Option Value} {base : Heap}
theorem k_law_cell (T : Tx K mg) : C8.Cal P w K mg base 1 "_law_cell" (spCellN K) [] := by
  refine cal_of (N := n_law_cell) T.d_law_cell sc_law_cell (fun _ _ F => F.bindsN fun _ _ _ _ _ _ us hl => match us, hl with | [_, _], _ => rfl) (fun vs H Q E h => ?_) (fun f cdv A outer s H vs Q E hr h => ?_)
  · obtain ⟨a, ns, k, rfl, _⟩ := h
    rfl
  · obtain ⟨a, ns, k, rfl, hS, q⟩ := h
    refine ⟨_, (pss_cons (ps_if (pt_cmpR op_gt (pe_callB (call_len2 : CallR _ _ (rLn K)) (by rfl) T.z_len (by decide +kernel) (pa_cons (pv 0) pa_nil)) pe_int (nomark _)) (pss_one (ps_ret (pe_ix (ix_seq : IxR _ (rIx K)) (pv 0) (pe_op op_mod (pe_callTy call_int2 (by rfl) T.z_int (by decide +kernel) (pa_cons (pv 1) pa_nil)) (pe_callB (call_len2 : CallR _ _ (rLn K)) (by rfl) T.z_len (by decide +kernel) (pa_cons (pv 0) pa_nil))) (fun _ _ => rfl)))) pss_nil) (pss_one (ps_ret pe_int))), ?_⟩
    walk_at "ss"
    refine b_lenL hS ?_
    walk_at "ss"
    refine iteD (fun e => ?_) (fun e => ?_)
    · rw [List.length_map] at e
      walk_at "ss"
      refine b_lenL hS ?_
      rw [List.length_map]
      refine o_modG e fun r r0 r1 => ?_
      refine ix_int hS r0 r1 fun x _ => ?_
      exact q x
    · walk_at "ss"
      exact q 0
theorem k_law_draws (T : Tx K mg) : C8.Cal P w K mg base 2 "_law_draws" (spDraws K) [] := by
  refine cal_of (N := n_law_draws) T.d_law_draws sc_law_draws (fun _ _ F => F.bindsN fun _ _ _ _ _ _ us hl => match us, hl with | [_, _, _], _ => rfl) (fun vs H Q E h => ?_) (fun f cdv A outer s H vs Q E hr h => ?_)
  · obtain ⟨a, b, ns, ss, k, rfl, _⟩ := h
    rfl
  · obtain ⟨a, b, ns, ss, k, rfl, hS, hB, hz, q⟩ := h
    refine ⟨_, (pss_cons (ps_asg (pe_lst (pa_cons pe_int (pa_cons pe_int (pa_cons pe_int (pa_cons pe_int (pa_cons pe_int (pa_cons pe_int (pa_cons pe_int (pa_cons pe_int pa_nil))))))))) (pg_name (i := 3) sc_law_draws.nd rfl (Or.inl rfl))) (pss_cons (ps_asg (pe_callB call_abs2 (by rfl) T.z_abs (by decide +kernel) (pa_cons (C8.pe_c (k_law_cell T) hr (by first | decide | omega) (by rfl) (pa_cons (pv 0) (pa_cons (pv 1) pa_nil))) pa_nil)) (pg_name (i := 4) sc_law_draws.nd rfl (Or.inl rfl))) (pss_cons (ps_asg pe_int (pg_name (i := 5) sc_law_draws.nd rfl (Or.inl rfl))) (C8.pss_cut (ps_if (pt_cmpR op_ge (pv 4) (pe_op op_pow pe_int pe_int) (nomark _)) (pss_one (ps_asg (pv 4) (pg_name (i := 5) sc_law_draws.nd rfl (Or.inl rfl)))) pss_nil) (pss_cons (ps_asg (pe_lst pa_nil) (pg_name (i := 6) sc_law_draws.nd rfl (Or.inl rfl))) (pss_cons (ps_for PassesOwn.never rfl (pi_range1 (by rfl) T.z_range (pa_cons (pe_callB (call_len2 : CallR _ _ (rLn K)) (by rfl) T.z_len (by decide +kernel) (pa_cons (pv 2) pa_nil)) pa_nil)) (pg_name (i := 7) sc_law_draws.nd rfl (Or.inl rfl)) (pss_one (ps_if (pt_cmpR op_gt (pv 5) pe_int (nomark _)) (pss_cons (ps_expr (pe_bm PySem.F.plainAttrs_list PySem.F.slot_list_append PySem.F.type_list_append mt_append (pv 6) (pa_cons (pe_op op_mod (pe_callTy call_int2 (by rfl) T.z_int (by decide +kernel) (pa_cons (pv 5) pa_nil)) (pe_ix (ix_seq : IxR _ (rIx K)) (pv 2) (pv 7) (fun _ _ => rfl))) pa_nil) : PE _ _ (tBM K _ _ _ _))) (pss_one (ps_asg (pe_op op_fdivW (pv 5) (pe_ix (ix_seq : IxR _ (rIx K)) (pv 2) (pv 7) (fun _ _ => rfl))) (pg_name (i := 5) sc_law_draws.nd rfl (Or.inl rfl))))) (pss_cons (ps_asg (pe_op op_mod (pe_callTy call_int2 (by rfl) T.z_int (by decide +kernel) (pa_cons (pe_op op_add3 (pe_op op_mul2 (pe_op op_add3 (pe_op op_add3 (pe_op op_add3 (pv 4) pe_int) (pe_op op_mul2 pe_int (pv 1))) (pv 7)) pe_int) (pe_op op_mul2 pe_int (pv 7))) pa_nil)) (pe_ix (ix_seq : IxR _ (rIx K)) (pv 3) (pe_op op_mod (pv 7) pe_int) (fun _ _ => rfl))) (pg_name (i := 8) sc_law_draws.nd rfl (Or.inl rfl))) (pss_cons (ps_asg (pe_op op_mod (pe_callTy call_int2 (by rfl) T.z_int (by decide +kernel) (pa_cons (pe_op op_add3 (pe_op op_add3 (pe_op op_mul2 (pv 8) (pv 8)) (pe_op op_mul2 pe_int (pv 7))) (pv 1)) pa_nil)) (pe_ix (ix_seq : IxR _ (rIx K)) (pv 3) (pe_op op_mod (pe_op op_add3 (pv 7) pe_int) pe_int) (fun _ _ => rfl))) (pg_name (i := 9) sc_law_draws.nd rfl (Or.inl rfl))) (pss_cons (ps_asg (pe_op op_mod (pe_callTy call_int2 (by rfl) T.z_int (by decide +kernel) (pa_cons (pe_op op_add3 (pe_op op_add3 (pe_op op_mul2 (pv 9) pe_int) (pe_op op_mul2 (pv 8) pe_int)) (pv 7)) pa_nil)) (pe_ix (ix_seq : IxR _ (rIx K)) (pv 3) (pe_op op_mod (pe_op op_add3 (pv 7) pe_int) pe_int) (fun _ _ => rfl))) (pg_name (i := 9) sc_law_draws.nd rfl (Or.inl rfl))) (pss_one (ps_expr (pe_bm PySem.F.plainAttrs_list PySem.F.slot_list_append PySem.F.type_list_append mt_append (pv 6) (pa_cons (pe_op op_mod (pe_callTy call_int2 (by rfl) T.z_int (by decide +kernel) (pa_cons (pe_op op_fdivW (pv 9) pe_int) pa_nil)) (pe_ix (ix_seq : IxR _ (rIx K)) (pv 2) (pv 7) (fun _ _ => rfl))) pa_nil) : PE _ _ (tBM K _ _ _ _)))))))))) (pss_one (ps_ret (pv 6))))))))), ?_⟩
    walk_at "ss"
    refine n_obj (lz (Nat.le_of_ble_eq_true rfl)) fun pr H1 np s1 e1 => ?_
    walk_at "ss"
    refine ⟨a, ns, k, rfl, s1.seq hS, fun cell => ?_⟩
    walk_at "ss"
    refine s_cut (fun σ H' => ∃ rest : Int, σ = [some (.ref a), some (.int k), some (.ref b), some (.ref pr), some (.int (if cell < 0 then -cell else cell)), some (.int rest), none, none, none, none] ∧ H1 = H') ?_ (fun σ H' p => ?_)
    · walk_at "ss"
      refine iteD (fun e => ?_) (fun e => ?_)
      · walk_at "ss"
        exact ⟨_, rfl, rfl⟩
      · walk_at "ss"
        exact ⟨_, rfl, rfl⟩
    obtain ⟨rest, rfl, rfl⟩ := p
    generalize (if cell < 0 then -cell else cell) = cell
    walk_at "ss"
    refine n_obj (lz (Nat.le_of_ble_eq_true rfl)) fun d H2 nd s2 e2 => ?_
    have hB2 := (s1.trans s2).seq hB
    walk_at "ss"
    refine b_lenL hB2 ?_
    have hl := hz.1
    walk_at "ss"
    rw [List.length_map]
    refine k_r1 (by omega) (by omega) ?_
    refine f_range (fun i σ H' => ∃ x y z, ∃ rest : Int, ∃ ds : List Int, σ = [some (.ref a), some (.int k), some (.ref b), some (.ref pr), some (.int cell), some (.int rest), some (.ref d), x, y, z] ∧ Same H1 H' ∧ H' d = some (.lst (ds.map V.int)) ∧ Dr ds (ss.take i))
      ⟨_, _, _, _, [], rfl, s2, e2, .nil⟩ (fun i σ H3 hi p => ?_) (fun σ H3 p => ?_)
    · obtain ⟨x, y, z, rest, ds, rfl, s3, e3, hd⟩ := p
      have hi : i < ss.length := hi
      have gi := List.getElem?_eq_getElem hi
      obtain ⟨z0, z1⟩ := hz.2 _ (List.getElem_mem hi)
      have hB3 := (s1.trans s3).seq hB
      have ep := s3 _ _ e1
      have ln : (ds.map V.int).length < sizeLine := by
        have := hd.len
        rw [List.length_take] at this
        exact small1000' (by rw [List.length_map]; omega)
      have snoc : ∀ d' : Int, 0 ≤ d' → d' < ss[i] → Dr (ds ++ [d']) (ss.take (i + 1)) := fun d' h0 h1 => by
        rw [List.take_succ, gi]
        exact hd.snoc h0 h1
      have gg : (ss.map V.int)[i]? = some (.int ss[i]) := by rw [List.getElem?_map, gi]; rfl
      rw [Int.zero_add]
      walk_at "ss"
      refine iteD (fun e => ?_) (fun e => ?_)
      · walk_at "ss"
        refine m_ty (lst_of e3) ?_
        walk_at "ss"
        refine o_ixL hB3 (atI_nat gg) ?_
        refine o_modG z0 fun r r0 r1 => ?_
        walk_at "ss"
        refine m_app e3 ln fun H4 c4 e4 => ?_
        walk_at "ss"
        refine o_ixL ((s1.trans (c4.same s3 nd)).seq hB) (atI_nat gg) ?_
        walk_at "ss"
        exact ⟨_, _, _, _, ds ++ [r], rfl, c4.same s3 nd, by rw [e4, List.map_append]; rfl, snoc r r0 r1⟩
      · walk_at "ss"
        refine ix_pr ep (Int.emod_nonneg _ (by omega)) (Int.emod_lt_of_pos _ (by omega)) fun p p0 p1 => ?_
        refine o_modG p0 fun f f0 f1 => ?_
        walk_at "ss"
        refine ix_pr ep (Int.emod_nonneg _ (by omega)) (Int.emod_lt_of_pos _ (by omega)) fun p p2 p3 => ?_
        refine o_modG p2 fun m m0 m1 => ?_
        walk_at "ss"
        refine ix_pr ep (Int.emod_nonneg _ (by omega)) (Int.emod_lt_of_pos _ (by omega)) fun p p2 p3 => ?_
        refine o_modG p2 fun m m0 m1 => ?_
        walk_at "ss"
        refine m_ty (lst_of e3) ?_
        walk_at "ss"
        refine o_ixL hB3 (atI_nat gg) ?_
        refine o_modG z0 fun r r0 r1 => ?_
        walk_at "ss"
        refine m_app e3 ln fun H4 c4 e4 => ?_
        exact ⟨_, _, _, _, ds ++ [r], rfl, c4.same s3 nd, by rw [e4, List.map_append]; rfl, snoc r r0 r1⟩
    · obtain ⟨x, y, z, rest, ds, rfl, s3, e3, hd⟩ := p
      have hd : Dr ds (ss.take ss.length) := hd
      rw [List.take_length] at hd
      walk_at "ss"
      exact q d H3 ds (s1.trans s3) (s1.free nd) e3 hd
end
end K14
namespace K14
open PySem PySem.Spec PyProof.Rows L2 Wy WN WQ WS WC WB

-- WIDE
section
variable {P : Program} {w : World} {K : PySem.W.Frag} {mg : Str → Option Value} {base : Heap}
theorem wt_b0 (a b : Int) : Bd 40 ((1 - 2 * (a % 2)) * (10 ^ Int.toNat 39 + b % 10 ^ Int.toNat 20)) := by
  show Bd 40 ((1 - 2 * (a % 2)) * (10 ^ 39 + b % 10 ^ 20))
  have h1 : a % 2 = 0 ∨ a % 2 = 1 := by omega
  have h2 := Int.emod_nonneg b (show (10 : Int) ^ 20 ≠ 0 by decide +kernel)
  have h3 := Int.emod_lt_of_pos b (show (0 : Int) < 10 ^ 20 by decide +kernel)
  rw [Bd.iff]
  rcases h1 with h | h <;> rw [h] <;> omega
theorem wt_b1 (a b : Int) : Bd 40 ((1 - 2 * (a % 2)) * (b % 10 ^ Int.toNat 10)) := by
  show Bd 40 ((1 - 2 * (a % 2)) * (b % 10 ^ 10))
  have h1 : a % 2 = 0 ∨ a % 2 = 1 := by omega
  have h2 := Int.emod_nonneg b (show (10 : Int) ^ 10 ≠ 0 by decide +kernel)
  have h3 := Int.emod_lt_of_pos b (show (0 : Int) < 10 ^ 10 by decide +kernel)
  rw [Bd.iff]
  rcases h1 with h | h <;> rw [h] <;> omega
theorem wt_b2 (a : Int) : Bd 40 (a % 13 - 6) := by
  rw [Bd.iff]
  omega
theorem k_law_weight (T : Tx K mg) : C8.Cal P w K mg base 1 "_law_weight" spWtB [] := by
  refine cal_of (N := n_law_weight) T.d_law_weight sc_law_weight (fun _ _ F => F.bindsN fun _ _ _ _ _ _ us hl => match us, hl with | [_], _ => rfl) (fun vs H Q E h => ?_) (fun f cdv A outer s H vs Q E hr h => ?_)
  · obtain ⟨d, rfl, _⟩ := h
    rfl
  · obtain ⟨d, rfl, q⟩ := h
    refine ⟨_, (pss_cons (ps_asg (pe_op op_mod (pe_callTy call_int2 (by rfl) T.z_int (by decide +kernel) (pa_cons (pv 0) pa_nil)) pe_int) (pg_name (i := 1) sc_law_weight.nd rfl (Or.inl rfl))) (pss_cons (ps_asg (pe_op op_fdivW (pv 0) pe_int) (pg_name (i := 2) sc_law_weight.nd rfl (Or.inl rfl))) (pss_cons (ps_if (pt_cmpR (op_eq2 hr.units : OpR _ _ (rEq2 K)) (pv 1) pe_int (nomark _)) (pss_one (ps_ret (pe_op op_mul2 (pe_op op_sub pe_int (pe_op op_mul2 pe_int (pe_op op_mod (pe_callTy call_int2 (by rfl) T.z_int (by decide +kernel) (pa_cons (pv 2) pa_nil)) pe_int))) (pe_op op_add3 (pe_op op_pow pe_int pe_int) (pe_op op_mod (pe_callTy call_int2 (by rfl) T.z_int (by decide +kernel) (pa_cons (pv 2) pa_nil)) (pe_op op_pow pe_int pe_int)))))) pss_nil) (pss_cons (ps_if (pt_cmpR (op_eq2 hr.units : OpR _ _ (rEq2 K)) (pv 1) pe_int (nomark _)) (pss_one (ps_ret (pe_op op_mul2 (pe_op op_sub pe_int (pe_op op_mul2 pe_int (pe_op op_mod (pe_callTy call_int2 (by rfl) T.z_int (by decide +kernel) (pa_cons (pv 2) pa_nil)) pe_int))) (pe_op op_mod (pe_callTy call_int2 (by rfl) T.z_int (by decide +kernel) (pa_cons (pe_op op_fdivW (pv 2) pe_int) pa_nil)) (pe_op op_pow pe_int pe_int))))) pss_nil) (pss_one (ps_ret (pe_op op_sub (pe_op op_mod (pe_callTy call_int2 (by rfl) T.z_int (by decide +kernel) (pa_cons (pv 2) pa_nil)) pe_int) pe_int))))))), ?_⟩
    walk_at "xx"
    refine iteI (fun e => ?_) (fun e => ?_)
    · walk_at "xx"
      refine o_mod (by decide +kernel) ?_
      walk_at "xx"
      exact q _ (wt_b0 _ _)
    · walk_at "xx"
      refine iteI (fun e => ?_) (fun e => ?_)
      · walk_at "xx"
        refine o_mod (by decide +kernel) ?_
        walk_at "xx"
        exact q _ (wt_b1 _ _)
      · walk_at "xx"
        exact q _ (wt_b2 _)
theorem k_law_differences (T : Tx K mg) : C8.Cal P w K mg base 3 "_law_differences" (spDiffsB K) [] := by
  refine cal_of (N := n_law_differences) T.d_law_differences sc_law_differences (fun _ _ F => F.bindsN fun _ _ _ _ _ _ us hl => match us, hl with | [_, _, _, _], _ => rfl) (fun vs H Q E h => ?_) (fun f cdv A outer s H vs Q E hr h => ?_)
  · obtain ⟨a, zs, pl, n, m, rfl, _⟩ := h
    rfl
  · obtain ⟨a, zs, pl, n, m, rfl, hA, hn, hm, q⟩ := h
    refine ⟨_, (pss_cons (ps_asg (pe_lst pa_nil) (pg_name (i := 4) sc_law_differences.nd rfl (Or.inl rfl))) (pss_cons (ps_asg (C8.pe_c (k_law_draws T) hr (by first | decide | omega) (by rfl) (pa_cons (pv 0) (pa_cons (pv 1) (pa_cons (pe_lc (own := [("k", 5)]) (g := gName 5) (tt := tYes) (by rfl) sc_law_differences.nd (pi_range1 (by rfl) T.z_range (pa_cons (pe_op op_mul2 pe_int (pv 2)) pa_nil)) (blkOk_by (own := [("k", 5)]) (N := n_law_differences) (sc := defScope s_law_differences) (by decide +kernel)) (fun _ _ _ _ _ => pg_name (i := 5) sc_law_differences.nd rfl (Or.inl rfl)) (fun _ _ _ _ _ => pts_nil) (fun _ _ _ _ _ => (pe_ifExp (pt_cmpR (op_eq2 hr.units : OpR _ _ (rEq2 K)) (pe_op op_mod (pv 5) pe_int) pe_int (nomark _)) (pe_op op_pow pe_int pe_int) (pe_op op_add3 (pv 3) pe_int)))) pa_nil)))) (pg_name (i := 6) sc_law_differences.nd rfl (Or.inl rfl))) (pss_cons (ps_for PassesOwn.never rfl (pi_range1 (by rfl) T.z_range (pa_cons (pv 2) pa_nil)) (pg_name (i := 5) sc_law_differences.nd rfl (Or.inl rfl)) (pss_one (ps_expr (pe_bm PySem.F.plainAttrs_list PySem.F.slot_list_append PySem.F.type_list_append mt_append (pv 4) (pa_cons (pe_tup (pa_cons (pe_ix (ix_seq : IxR _ (rIx K)) (pv 6) (pe_op op_mul2 pe_int (pv 5)) (fun _ _ => rfl)) (pa_cons (pe_ix (ix_seq : IxR _ (rIx K)) (pv 6) (pe_op op_add3 (pe_op op_mul2 pe_int (pv 5)) pe_int) (fun _ _ => rfl)) (pa_cons (C8.pe_c (k_law_weight T) hr (by first | decide | omega) (by rfl) (pa_cons (pe_ix (ix_seq : IxR _ (rIx K)) (pv 6) (pe_op op_add3 (pe_op op_mul2 pe_int (pv 5)) pe_int) (fun _ _ => rfl)) pa_nil)) pa_nil)))) pa_nil) : PE _ _ (tBM K _ _ _ _))))) (pss_one (ps_ret (pv 4)))))), ?_⟩
    walk_at "xx"
    rename_i dp H1 n1 s1 e1
    refine c_accR (One fun j y _ => y = .int (if j % 3 = 2 then 10 ^ 42 else (m : Int) + 1)) (fun _ _ _ _ _ h => h) (fun i acc H hi h => small1000 (by rw [h.1]; omega)) One.zero (fun j H2 acc N M hj s2 o hN hM => ?_) (fun D H2 ys nD s2 e2 o => ?_)
    · rw [Int.zero_add]
      walk_at "xx"
      refine ⟨rfl, ?_⟩
      walk_at "xx"
      refine iteI (fun e => ?_) (fun e => ?_)
      · walk_at "xx"
        exact hN _ _ (Same.refl _) (o.snoc (fun _ _ h => h) (by rw [if_pos (by omega)]; rfl))
      · walk_at "xx"
        exact hN _ _ (Same.refl _) (o.snoc (fun _ _ h => h) (by rw [if_neg (by omega)]))
    have ey := o.eqR fun j y _ h => h
    have nn : (3 * (n : Int)).toNat = 3 * n := by omega
    rw [nn] at ey
    have ey : ys = ((List.range (3 * n)).map fun j => if j % 3 = 2 then (10 : Int) ^ 42 else (m : Int) + 1).map V.int := by
      rw [ey, List.map_map]
      rfl
    rw [ey] at e2
    clear o ey
    walk_at "xx"
    refine ⟨a, D, zs, _, pl, rfl, (s1.trans s2).seq hA, lst_of e2, ⟨by rw [List.length_map, List.length_range]; omega, fun s hs => ?_⟩, fun p H3 dr s3 n3 e3 hd => ?_⟩
    · obtain ⟨j, _, rfl⟩ := List.mem_map.mp hs
      split <;> omega
    have ld := hd.len
    rw [List.length_map, List.length_range] at ld
    have S3 : Same H1 H3 := s2.trans s3
    walk_at "xx"
    refine f_range (fun i σ H' => ∃ z us, ∃ ds : List Df, σ = [some (.ref a), some (.int pl), some (.int n), some (.int m), some (.ref dp), z, some (.ref p)] ∧ Same H H' ∧ H' p = some (.lst (dr.map V.int)) ∧ H' dp = some (.lst us) ∧ TpAll H' us (ds.map dfD) ∧ ds.length = i ∧ ∀ d ∈ ds, InR m d ∧ Bd 40 d.2.2)
      ⟨_, _, [], rfl, s1.trans S3, e3, S3 _ _ e1, .nil, rfl, fun _ h => by cases h⟩ (fun i σ H4 hi p => ?_) (fun σ H4 p => ?_)
    · obtain ⟨z, us, ds, rfl, s4, e4, f4, t4, l4, r4⟩ := p
      have hi : i < n := hi
      have lu := t4.length
      rw [List.length_map] at lu
      have sz : ∀ j, j < 3 * n → ((List.range (3 * n)).map fun j => if j % 3 = 2 then (10 : Int) ^ 42 else (m : Int) + 1)[j]? = some (if j % 3 = 2 then (10 : Int) ^ 42 else (m : Int) + 1) := fun j hj => by rw [List.getElem?_map, List.getElem?_range hj]; rfl
      rw [Int.zero_add]
      walk_at "xx"
      refine m_ty (lst_of f4) ?_
      walk_at "xx"
      refine ix_int (lst_of e4) (by omega) (by omega) fun x gx => ?_
      walk_at "xx"
      refine ix_int (lst_of e4) (by omega) (by omega) fun y gy => ?_
      walk_at "xx"
      refine ix_int (lst_of e4) (by omega) (by omega) fun c gc => ?_
      walk_at "xx"
      refine ⟨c, rfl, fun c hcb => ?_⟩
      obtain ⟨sx, g1, x0, x1⟩ := hd.get gx
      obtain ⟨sy, g2, y0, y1⟩ := hd.get gy
      rw [show (3 * (i : Int)).toNat = 3 * i by omega, sz _ (by omega), if_neg (by omega)] at g1
      rw [show (3 * (i : Int) + 1).toNat = 3 * i + 1 by omega, sz _ (by omega), if_neg (by omega)] at g2
      cases g1
      cases g2
      walk_at "xx"
      rename_i tp H5 n5 s5 e5
      refine m_app (s5 _ _ f4) (small1000 (by omega)) fun H6 c6 e6 => ?_
      have k6 : TK H4 H6 := s5.tk.trans (c6.tk (s5 _ _ f4))
      have np : dp ≠ p := fun e => by
        subst e
        rw [S3 _ _ e1] at e3
        have := (Option.some.inj e3)
        injection this with this
        cases dr with
        | nil => simp at ld; omega
        | cons _ _ => cases this
      walk_at "xx"
      refine ⟨_, us ++ [.ref tp], ds ++ [(x, y, c)], rfl, c6.same (s4.trans s5) n1, c6.at (s5 _ _ e4) (Ne.symm np), e6, ?_, by rw [List.length_append, l4]; rfl, fun d hd => ?_⟩
      · rw [List.map_append]
        exact tpSnoc (t4.tk k6) (Tp.tk (c6.tk (s5 _ _ f4)) (.tup e5 (by walk_at "tp")))
      · rcases List.mem_append.mp hd with hd | hd
        · exact r4 d hd
        · rw [List.mem_singleton.mp hd]
          exact ⟨⟨x0, by show x ≤ _; omega, y0, by show y ≤ _; omega⟩, hcb⟩
    · obtain ⟨z, us, ds, rfl, s4, e4, f4, t4, l4, r4⟩ := p
      walk_at "xx"
      exact q _ _ _ ds s4 n1 f4 t4 l4 r4
end
end K14
namespace K14
open PySem PySem.Spec PyProof.Rows L2 Wy WN WQ WS WC

-- WIDE
section
variable {P : Program} {w : World} {K : PySem.W.Frag} {mg : Str → Option Value} {base : Heap}
theorem k_chain_sum (T : Tx K mg) : C8.Cal P w K mg base 1 "chain_sum" (spChain K) [] := by
  refine cal_of (N := n_chain_sum) T.d_chain_sum sc_chain_sum (fun _ _ F => F.bindsN fun _ _ _ _ _ _ us hl => match us, hl with | [_, _], _ => rfl) (fun vs H Q E h => ?_) (fun f cdv A outer s H vs Q E hr h => ?_)
  · obtain ⟨a, b, us, ds, ns, rfl, _⟩ := h
    rfl
  · obtain ⟨a, b, us, ds, ns, rfl, hA, tA, hB, ld, ln, qn, qs⟩ := h
    refine ⟨_, (pss_cons (ps_if (PW.pt (pw_or (pt_not (pt_tr (pv 1) : PT _ _ (tTr K _))) (pw_or1 (pt_not (pt_tr (pe_callC cc_all (by rfl) T.z_all (by decide +kernel) (pa_cons (pe_lc (own := [("number", 2)]) (g := gName 2) (tt := tYes) (by rfl) sc_chain_sum.nd (pi_seq (pv 1) : PI _ _ _ (iSeq K _)) (blkOk_by (own := [("number", 2)]) (N := n_chain_sum) (sc := defScope s_chain_sum) (by decide +kernel)) (fun _ _ _ _ _ => pg_name (i := 2) sc_chain_sum.nd rfl (Or.inl rfl)) (fun _ _ _ _ _ => pts_nil) (fun _ _ _ _ _ => (pe_chain op_le op_lt pe_int (pv 2) (pe_callB (call_len2 : CallR _ _ (rLn K)) (by rfl) T.z_len (by decide +kernel) (pa_cons (pv 0) pa_nil))))) pa_nil)) : PT _ _ (tTr K _)))))) (pss_one (ps_ret pe_non)) pss_nil) (pss_cons (ps_asg (pe_ix (ix_seq : IxR _ (rIx K)) (pv 0) (pe_ix (ix_seq : IxR _ (rIx K)) (pv 1) pe_int (fun _ _ => rfl)) (fun _ _ => rfl)) (pg_tup (by rfl) (pgs_cons (pg_name (i := 3) sc_chain_sum.nd rfl (Or.inl rfl)) (pgs_cons (pg_name (i := 4) sc_chain_sum.nd rfl (Or.inl rfl)) (pgs_cons (pg_name (i := 5) sc_chain_sum.nd rfl (Or.inl rfl)) pgs_nil))) : PG _ _ (gTup K _ _))) (pss_cons (ps_for PassesOwn.never rfl (pi_seq (pe_slice (WC.sl_3 : SlR _ (WC.rSl3 K)) (pv 1) (po_some pe_int) po_none) : PI _ _ _ (iSeq K _)) (pg_name (i := 2) sc_chain_sum.nd rfl (Or.inl rfl)) (pss_cons (ps_asg (pe_ix (ix_seq : IxR _ (rIx K)) (pv 0) (pv 2) (fun _ _ => rfl)) (pg_tup (by rfl) (pgs_cons (pg_name (i := 6) sc_chain_sum.nd rfl (Or.inl rfl)) (pgs_cons (pg_name (i := 7) sc_chain_sum.nd rfl (Or.inl rfl)) (pgs_cons (pg_name (i := 8) sc_chain_sum.nd rfl (Or.inl rfl)) pgs_nil))) : PG _ _ (gTup K _ _))) (pss_cons (ps_if (pt_cmpR (op_ne2 hr.units : OpR _ _ (rNe2 K)) (pv 6) (pv 4) (nomark _)) (pss_one (ps_ret pe_non)) pss_nil) (pss_cons (ps_asg (pv 7) (pg_name (i := 4) sc_chain_sum.nd rfl (Or.inl rfl))) (pss_one (ps_asg (pe_op op_add3 (pv 5) (pv 8)) (pg_name (i := 5) sc_chain_sum.nd rfl (Or.inl rfl)))))))) (pss_one (ps_ret (pe_tup (pa_cons (pv 3) (pa_cons (pv 4) (pa_cons (pv 5) pa_nil))))))))), ?_⟩
    have lu := tA.length
    rw [List.length_map] at lu
    walk_at "xx"
    refine k_trQ hB ?_
    walk_at "xx"
    cases ns with
    | nil =>
      refine iteTT rfl ?_
      walk_at "xx"
      exact qn rfl _ (Same.refl _)
    | cons n r =>
    refine iteFF rfl ?_
    walk_at "xx"
    refine w_sq hB rfl fun J hJ => ?_
    refine c_acc hJ (fun i acc _ => acc = ((n :: r).take i).map fun n => V.bl (inB ds.length n)) (fun _ _ _ _ _ h => h) (fun i acc H hi h => small1000' (by rw [h, List.length_map, List.length_take]; omega)) rfl (fun i x H1 acc N M hx s1 o hN hM => ?_) (fun D H1 ys nD s1 e1 o => ?_)
    · rw [List.getElem?_map] at hx
      obtain ⟨m, gm, rfl⟩ := Option.map_eq_some_iff.mp hx
      walk_at "xx"
      refine ⟨rfl, ?_⟩
      walk_at "xx"
      have tk : ((n :: r).take (i + 1)).map (fun n => V.bl (inB ds.length n)) = ((n :: r).take i).map (fun n => V.bl (inB ds.length n)) ++ [V.bl (inB ds.length m)] := by
        rw [List.take_succ, gm, List.map_append]
        rfl
      have vis : inB ds.length m = (decide (0 ≤ m) && decide (m < (us.length : Int))) := by
        unfold inB
        rw [lu]
      refine iteD (fun e => ?_) (fun e => ?_)
      · walk_at "xx"
        refine b_lenQ (hA.same s1) ?_
        walk_at "xx"
        refine hN _ _ (Same.refl _) ?_
        rw [tk, o, vis, decide_eq_true e]
        rfl
      · walk_at "xx"
        refine hN _ _ (Same.refl _) ?_
        rw [tk, o, vis, decide_eq_false e]
        rfl
    rw [List.length_map, List.take_length] at o
    walk_at "xx"
    refine b_allM (ds := n :: r) (f := inB ds.length) (by rw [← o]; exact lst_of e1) ?_
    walk_at "xx"
    cases hall : (n :: r).all (inB ds.length) with
    | false =>
      walk_at "xx"
      refine qn ?_ _ s1
      rw [csum_cons, hall]
      rfl
    | true =>
    have ec : csum ds (n :: r) = runC (dsAt ds n) (r.map (dsAt ds)) := by
      rw [csum_cons, if_pos hall]
    have hin : ∀ x ∈ n :: r, 0 ≤ x ∧ x < us.length := fun x hx => by
      have := List.all_eq_true.mp hall x hx
      unfold inB at this
      rw [Bool.and_eq_true, decide_eq_true_eq, decide_eq_true_eq, ← lu] at this
      exact this
    have get : ∀ {H2 : Hp} {x : Int}, TpAll H2 us (ds.map dfD) → x ∈ n :: r → ∃ p, us[x.toNat]? = some (.ref p) ∧ H2 p = some (.tup [.int (dsAt ds x).1, .int (dsAt ds x).2.1, .int (dsAt ds x).2.2]) := fun {H2 x} t hx => by
      obtain ⟨h1, h2⟩ := hin x hx
      have gd : ds[x.toNat]? = some (dsAt ds x) := by
        unfold dsAt
        rw [List.getD_eq_getElem?_getD, List.getElem?_eq_getElem (by omega)]
        rfl
      obtain ⟨u, gu, tu⟩ := tpAt t gd
      obtain ⟨p, _, _, _, rfl, ep, t1, t2, t3⟩ := WQ.tp3 tu
      cases t1
      cases t2
      cases t3
      exact ⟨p, gu, ep⟩
    clear hall o e1 hJ
    walk_at "xx"
    refine ix_intQ (ns := n :: r) (hB.same s1) (by omega) (by rw [List.length_cons]; omega) fun x0 g0 => ?_
    obtain rfl : n = x0 := by simpa using g0
    obtain ⟨p0, gp0, ep0⟩ := get (tA.tk s1.tk) List.mem_cons_self
    obtain ⟨i1, i2⟩ := hin _ List.mem_cons_self
    refine o_ixQ (hA.same s1) (atI_of (j := n.toNat) (by omega) gp0) ?_
    walk_at "xx"
    refine w_cut1 (hB.same s1) rfl fun J _ H2 s2 hJ => ?_
    refine f_sq (xs := r.map V.int) hJ (fun i σ H' => ∃ z4 z5 z6 z7, ∃ l t : Int, σ = [some (.ref a), some (.ref b), z4, some (.int (dsAt ds n).1), some (.int l), some (.int t), z5, z6, z7] ∧ Same H2 H' ∧ runC ((dsAt ds n).1, l, t) ((r.drop i).map (dsAt ds)) = csum ds (n :: r))
      ⟨_, _, _, _, _, _, rfl, Same.refl _, ec.symm⟩ (fun i σ H' p => p.choose_spec.choose_spec.choose_spec.choose_spec.choose_spec.choose_spec.2.1) (fun i x σ H3 hx p => ?_) (fun σ H3 p => ?_)
    · obtain ⟨z4, z5, z6, z7, l, t, rfl, s3, er⟩ := p
      rw [List.getElem?_map] at hx
      obtain ⟨m, gm, rfl⟩ := Option.map_eq_some_iff.mp hx
      have hm : m ∈ n :: r := List.mem_cons_of_mem _ (List.mem_of_getElem? gm)
      have S3 := s1.trans (s2.trans s3)
      obtain ⟨p1, gp1, ep1⟩ := get (tA.tk S3.tk) hm
      obtain ⟨j1, j2⟩ := hin _ hm
      have hi := (List.getElem?_eq_some_iff.mp gm).1
      rw [List.drop_eq_getElem_cons hi, (List.getElem?_eq_some_iff.mp gm).2, List.map_cons] at er
      unfold runC at er
      simp only at er
      walk_at "xx"
      refine o_ixQ (hA.same S3) (atI_of (j := m.toNat) (by omega) gp1) ?_
      walk_at "xx"
      refine iteNI (fun e => ?_) (fun e => ?_)
      · walk_at "xx"
        rw [if_neg e] at er
        exact qn er.symm _ S3
      · rw [if_pos e] at er
        walk_at "xx"
        exact ⟨_, _, _, _, _, _, rfl, s3, er⟩
    · obtain ⟨z4, z5, z6, z7, l, t, rfl, s3, er⟩ := p
      rw [List.length_map, List.drop_length] at er
      walk_at "xx"
      exact qs _ er.symm _ _ (by walk_at "sa") (by walk_at "fr") (by walk_at "hp")
theorem k_is_ring (T : Tx K mg) : C8.Cal P w K mg base 2 "is_ring" (spRing K) [] := by
  refine cal_of (N := n_is_ring) T.d_is_ring sc_is_ring (fun _ _ F => F.bindsN fun _ _ _ _ _ _ us hl => match us, hl with | [_, _], _ => rfl) (fun vs H Q E h => ?_) (fun f cdv A outer s H vs Q E hr h => ?_)
  · obtain ⟨a, b, us, ds, ns, rfl, _⟩ := h
    rfl
  · obtain ⟨a, b, us, ds, ns, rfl, hA, tA, hB, ld, ln, q⟩ := h
    refine ⟨_, (pss_cons (ps_asg (C8.pe_c (k_chain_sum T) hr (by first | decide | omega) (by rfl) (pa_cons (pv 0) (pa_cons (pv 1) pa_nil))) (pg_name (i := 2) sc_is_ring.nd rfl (Or.inl rfl))) (pss_one (ps_ret (pe_and (pe_cmpR op_ntN2 (pv 2) pe_non (nomark _)) (pe_and (pe_cmpR (op_eq2 hr.units : OpR _ _ (rEq2 K)) (pe_ix (ix_seq : IxR _ (rIx K)) (pv 2) pe_int (fun _ _ => rfl)) (pe_ix (ix_seq : IxR _ (rIx K)) (pv 2) pe_int (fun _ _ => rfl)) (nomark _)) (pe_one (pe_cmpR op_lt (pe_ix (ix_seq : IxR _ (rIx K)) (pv 2) pe_int (fun _ _ => rfl)) pe_int (nomark _)))))))), ?_⟩
    walk_at "xx"
    refine ⟨a, b, us, ds, ns, rfl, hA, tA, hB, ld, ln, fun e H1 s1 => ?_, fun t e p H1 s1 np ep => ?_⟩
    · rw [ringB_none e] at q
      walk_at "xx"
      exact q _ s1
    · rw [ringB_some e] at q
      walk_at "xx"
      refine iteI (fun e2 => ?_) (fun e2 => ?_)
      · rw [decide_eq_true e2] at q
        walk_at "xx"
        exact q _ s1
      · rw [decide_eq_false e2] at q
        walk_at "xx"
        exact q _ s1
theorem k_floor_value (T : Tx K mg) : C8.Cal P w K mg base 2 "floor_value" (spFloor K) [] := by
  refine cal_of (N := n_floor_value) T.d_floor_value sc_floor_value (fun _ _ F => F.bindsN fun _ _ _ _ _ _ us hl => match us, hl with | [_, _, _], _ => rfl) (fun vs H Q E h => ?_) (fun f cdv A outer s H vs Q E hr h => ?_)
  · obtain ⟨a, b, us, ds, ns, k, rfl, _⟩ := h
    rfl
  · obtain ⟨a, b, us, ds, ns, k, rfl, hA, tA, hB, ld, ln, q⟩ := h
    refine ⟨_, (pss_cons (ps_asg (C8.pe_c (k_chain_sum T) hr (by first | decide | omega) (by rfl) (pa_cons (pv 0) (pa_cons (pv 1) pa_nil))) (pg_name (i := 3) sc_floor_value.nd rfl (Or.inl rfl))) (pss_cons (ps_if (PW.pt (pw_or (pt_cmpR op_isN2 (pv 3) pe_non (nomark _)) (pw_or (pt_cmpR (op_ne2 hr.units : OpR _ _ (rNe2 K)) (pe_ix (ix_seq : IxR _ (rIx K)) (pv 3) pe_int (fun _ _ => rfl)) pe_int (nomark _)) (pw_or1 (pt_cmpR (op_ne2 hr.units : OpR _ _ (rNe2 K)) (pe_ix (ix_seq : IxR _ (rIx K)) (pv 3) pe_int (fun _ _ => rfl)) (pv 2) (nomark _)))))) (pss_one (ps_ret pe_non)) pss_nil) (pss_one (ps_ret (pe_un un_neg (pe_ix (ix_seq : IxR _ (rIx K)) (pv 3) pe_int (fun _ _ => rfl))))))), ?_⟩
    walk_at "xx"
    refine ⟨a, b, us, ds, ns, rfl, hA, tA, hB, ld, ln, fun e H1 s1 => ?_, fun t e p H1 s1 np ep => ?_⟩
    · rw [floorV_none e] at q
      walk_at "xx"
      exact q _ s1
    · rw [floorV_some e] at q
      walk_at "xx"
      refine iteNI (fun e2 => ?_) (fun e2 => ?_)
      · rw [if_neg (fun h => e2 h.1)] at q
        walk_at "xx"
        exact q _ s1
      · walk_at "xx"
        refine iteNI (fun e3 => ?_) (fun e3 => ?_)
        · rw [if_neg (fun h => e3 h.2)] at q
          walk_at "xx"
          exact q _ s1
        · rw [if_pos ⟨e2, e3⟩] at q
          walk_at "xx"
          exact q _ s1
theorem k_keeps (T : Tx K mg) : C8.Cal P w K mg base 1 "keeps" (spKeeps K) [] := by
  refine cal_of (N := n_keeps) T.d_keeps sc_keeps (fun _ _ F => F.bindsN fun _ _ _ _ _ _ us hl => match us, hl with | [_, _], _ => rfl) (fun vs H Q E h => ?_) (fun f cdv A outer s H vs Q E hr h => ?_)
  · obtain ⟨a, b, us, ds, vals, rfl, _⟩ := h
    rfl
  · obtain ⟨a, b, us, ds, vals, rfl, hA, tA, hB, hin, hl, hv, q⟩ := h
    refine ⟨_, (pss_cons (ps_asg (pe_lst (pa_cons pe_int (pa_star (pv 1) pa_nil : PA _ _ (tStar K _ _)))) (pg_name (i := 2) sc_keeps.nd rfl (Or.inr rfl))) (pss_one (ps_ret (pe_callC cc_all (by rfl) T.z_all (by decide +kernel) (pa_cons (pe_lc (own := [("u", 3), ("v", 4), ("c", 5)]) (g := (gTup K 3 (gCons (gName 3) (gCons (gName 4) (gCons (gName 5) (gNil)))))) (tt := tYes) (by rfl) sc_keeps.nd (pi_seq (pv 0) : PI _ _ _ (iSeq K _)) (blkOk_by (own := [("u", 3), ("v", 4), ("c", 5)]) (N := n_keeps) (sc := defScope s_keeps) (by decide +kernel)) (fun _ _ _ _ _ => pg_tup (by rfl) (pgs_cons (pg_name (i := 3) sc_keeps.nd rfl (Or.inl rfl)) (pgs_cons (pg_name (i := 4) sc_keeps.nd rfl (Or.inl rfl)) (pgs_cons (pg_name (i := 5) sc_keeps.nd rfl (Or.inl rfl)) pgs_nil)))) (fun _ _ _ _ _ => pts_nil) (fun _ _ _ _ _ => (pe_cmpR op_le (pe_op op_sub (pe_ix (ix_seq : IxR _ (rIx K)) (pv 2) (pv 3) (fun _ _ => rfl)) (pe_ix (ix_seq : IxR _ (rIx K)) (pv 2) (pv 4) (fun _ _ => rfl))) (pv 5) (nomark _)))) pa_nil))))), ?_⟩
    have lu := tA.length
    rw [List.length_map] at lu
    walk_at "xx"
    refine a_star ?_
    walk_at "xx"
    refine k_st hB ?_
    walk_at "xx"
    refine n_obj (by simp only [List.length_cons, List.length_append, List.length_map, List.length_nil]; exact lz (by omega)) fun lp H2 np s0 e2 => ?_
    have e2 : H2 lp = some (.lst ((0 :: vals).map V.int)) := by
      rw [e2, List.map_cons, List.append_nil]
    walk_at "xx"
    refine w_sq (hA.same s0) rfl fun J hJ => ?_
    refine c_acc hJ (One fun j y _ => ∃ d, ds[j]? = some d ∧ y = .bl (kept vals d)) (fun i acc H1 H2 _ h => h) (fun i acc H1 hi h => small1000' (by rw [h.1]; omega)) One.zero (fun j x H3 acc N M hx s3 o hN hM => ?_) (fun D H3 ys nD s3 e3 o => ?_)
    · obtain ⟨d, hd, td⟩ := tpGet (tA.tk (s0.trans s3).tk) hx
      obtain ⟨a1, _, _, _, rfl, ea, t1, t2, t3⟩ := WQ.tp3 td
      cases t1
      cases t2
      cases t3
      obtain ⟨r1, r2, r3, r4⟩ := hin d (List.mem_of_getElem? hd)
      walk_at "xx"
      refine ⟨rfl, ?_⟩
      walk_at "xx"
      refine ix_lv (by walk_at "sq") r1 (by omega) ?_
      walk_at "xx"
      refine ix_lv (by walk_at "sq") r3 (by omega) ?_
      walk_at "xx"
      exact hN _ _ (Same.refl _) (o.snoc (fun _ _ h => h) ⟨d, hd, rfl⟩)
    · have e := One.eq (xs := ds) (F := fun d => V.bl (kept vals d)) (lu ▸ o) (fun j y hj p => by
        obtain ⟨d, hd, rfl⟩ := p
        rw [hd]
        rfl)
      walk_at "xx"
      rw [e] at e3
      refine b_allM (lst_of e3) ?_
      exact q _ (by walk_at "sa")
theorem k_law_tells (T : Tx K mg) : C8.Cal P w K mg base 1 "_law_tells" spTells [] := by
  refine cal_of (N := n_law_tells) T.d_law_tells sc_law_tells (fun _ _ F => F.bindsN fun _ _ _ _ _ _ us hl => match us, hl with | [_, _], _ => rfl) (fun vs H Q E h => ?_) (fun f cdv A outer s H vs Q E hr h => ?_)
  · obtain ⟨x, y, rfl, _⟩ := h
    rfl
  · obtain ⟨x, y, rfl, q⟩ := h
    refine ⟨_, (pss_one (ps_ret (pe_and (pe_callB (call_isi2 : CallR _ _ (rIsi2 K)) (by rfl) T.z_isinstance (by decide +kernel) (pa_cons (pv 0) (pa_cons (pe_bltn (v := .ty "bool") (by rfl) T.z_bool (by decide +kernel) rfl) pa_nil))) (pe_one (pe_cmpR (op_eq2 hr.units : OpR _ _ (rEq2 K)) (pv 0) (pv 1) (nomark _)))))), ?_⟩
    walk_at "xx"
    rw [dB]
    exact q
end
end K14
namespace K14
open PySem PySem.Spec PyProof.Rows L2 Wy WN WQ WS

-- WIDE
section
variable {P : Program} {w : World} {K : PySem.W.Frag} {mg : Str → Option Value} {base : Heap}
theorem k_law_is_integer (T : Tx K mg) : C8.Cal P w K mg base 1 "_law_is_integer" spIsInt [] := by
  refine cal_of (N := n_law_is_integer) T.d_law_is_integer sc_law_is_integer (fun _ _ F => F.bindsN fun _ _ _ _ _ _ us hl => match us, hl with | [_], _ => rfl) (fun vs H Q E h => ?_) (fun f cdv A outer s H vs Q E hr h => ?_)
  · obtain ⟨i, rfl, _⟩ := h
    rfl
  · obtain ⟨i, rfl, q⟩ := h
    refine ⟨_, (pss_one (ps_ret (pe_and (pe_callB (call_isi2 : CallR _ _ (rIsi2 K)) (by rfl) T.z_isinstance (by decide +kernel) (pa_cons (pv 0) (pa_cons (pe_bltn (v := .ty "int") (by rfl) T.z_int (by decide +kernel) rfl) pa_nil))) (pe_one (pe_not (pe_callB (call_isi2 : CallR _ _ (rIsi2 K)) (by rfl) T.z_isinstance (by decide +kernel) (pa_cons (pv 0) (pa_cons (pe_bltn (v := .ty "bool") (by rfl) T.z_bool (by decide +kernel) rfl) pa_nil)))))))), ?_⟩
    walk_at "xx"
    exact q
theorem k_law_kept (T : Tx K mg) : C8.Cal P w K mg base 1 "_law_kept" (spKept K) [] := by
  refine cal_of (N := n_law_kept) T.d_law_kept sc_law_kept (fun _ _ F => F.bindsN fun _ _ _ _ _ _ us hl => match us, hl with | [_, _], _ => rfl) (fun vs H Q E h => ?_) (fun f cdv A outer s H vs Q E hr h => ?_)
  · obtain ⟨a, b, us, ds, vals, rfl, _⟩ := h
    rfl
  · obtain ⟨a, b, us, ds, vals, rfl, hA, tA, hB, hin, hl, hv, q⟩ := h
    refine ⟨_, (pss_cons (ps_asg (pe_op op_add3 (pe_lst (pa_cons pe_int pa_nil)) (pv 1)) (pg_name (i := 2) sc_law_kept.nd rfl (Or.inr rfl))) (pss_one (ps_ret (pe_callC cc_all (by rfl) T.z_all (by decide +kernel) (pa_cons (pe_lc (own := [("u", 3), ("v", 4), ("c", 5)]) (g := (gTup K 3 (gCons (gName 3) (gCons (gName 4) (gCons (gName 5) (gNil)))))) (tt := tYes) (by rfl) sc_law_kept.nd (pi_seq (pv 0) : PI _ _ _ (iSeq K _)) (blkOk_by (own := [("u", 3), ("v", 4), ("c", 5)]) (N := n_law_kept) (sc := defScope s_law_kept) (by decide +kernel)) (fun _ _ _ _ _ => pg_tup (by rfl) (pgs_cons (pg_name (i := 3) sc_law_kept.nd rfl (Or.inl rfl)) (pgs_cons (pg_name (i := 4) sc_law_kept.nd rfl (Or.inl rfl)) (pgs_cons (pg_name (i := 5) sc_law_kept.nd rfl (Or.inl rfl)) pgs_nil)))) (fun _ _ _ _ _ => pts_nil) (fun _ _ _ _ _ => (pe_cmpR op_le (pe_op op_sub (pe_ix (ix_seq : IxR _ (rIx K)) (pv 2) (pv 3) (fun _ _ => rfl)) (pe_ix (ix_seq : IxR _ (rIx K)) (pv 2) (pv 4) (fun _ _ => rfl))) (pv 5) (nomark _)))) pa_nil))))), ?_⟩
    have lu := tA.length
    rw [List.length_map] at lu
    walk_at "xx"
    refine o_addL (by walk_at "hp") (by walk_at "hp") (by rw [List.length_map]; exact lz (by show 1 + _ ≤ _; omega)) fun lp H2 np s2 e2 => ?_
    have e2 : H2 lp = some (.lst ((0 :: vals).map V.int)) := e2
    walk_at "xx"
    have s0 : Same H H2 := by walk_at "sa"
    refine w_sq (hA.same s0) rfl fun J hJ => ?_
    refine c_acc hJ (One fun j y _ => ∃ d, ds[j]? = some d ∧ y = .bl (kept vals d)) (fun i acc H1 H2 _ h => h) (fun i acc H1 hi h => small1000' (by rw [h.1]; omega)) One.zero (fun j x H3 acc N M hx s3 o hN hM => ?_) (fun D H3 ys nD s3 e3 o => ?_)
    · obtain ⟨d, hd, td⟩ := tpGet (tA.tk (s0.trans s3).tk) hx
      obtain ⟨a1, _, _, _, rfl, ea, t1, t2, t3⟩ := WQ.tp3 td
      cases t1
      cases t2
      cases t3
      obtain ⟨r1, r2, r3, r4⟩ := hin d (List.mem_of_getElem? hd)
      walk_at "xx"
      refine ⟨rfl, ?_⟩
      walk_at "xx"
      refine ix_lv (by walk_at "sq") r1 (by omega) ?_
      walk_at "xx"
      refine ix_lv (by walk_at "sq") r3 (by omega) ?_
      walk_at "xx"
      exact hN _ _ (Same.refl _) (o.snoc (fun _ _ h => h) ⟨d, hd, rfl⟩)
    · have e := One.eq (xs := ds) (F := fun d => V.bl (kept vals d)) (lu ▸ o) (fun j y hj p => by
        obtain ⟨d, hd, rfl⟩ := p
        rw [hd]
        rfl)
      walk_at "xx"
      rw [e] at e3
      refine b_allM (lst_of e3) ?_
      exact q _ (by walk_at "sa")
end
end K14
namespace K14
open PySem PySem.Spec PyProof.Rows L2 Wy WN WQ WS WC WE WB

-- WIDE
theorem run_gap {f : Int} {d : Df} {r : List Df} : ∀ {es : List Df} {l z s t : Int}, Path es l z s → d.1 ≠ z → runC (f, l, t) (es ++ d :: r) = none
  | _, _, _, _, t, .nil, h => by
    show (if d.1 = _ then _ else none) = none
    rw [if_neg h]
  | _, _, _, _, t, .cons p, h => by
    rw [List.cons_append]
    unfold runC
    rw [if_pos rfl]
    exact run_gap p h
theorem csum_out {ds : List Df} {ns : List Int} {i : Nat} {m : Int} (g : ns[i]? = some m) (h : inB ds.length m = false) : csum ds ns = none := by
  cases ns with
  | nil => cases g
  | cons n r =>
    rw [csum_cons, if_neg]
    intro e
    have := List.all_eq_true.mp e m (List.mem_of_getElem? g)
    rw [h] at this
    cases this
theorem csum_gap {ds : List Df} {ns : List Int} {i : Nat} {m u z s : Int} (p : Path ((ns.take i).map (dsAt ds)) u z s) (hi : 0 < i) (g : ns[i]? = some m) (h : (dsAt ds m).1 ≠ z) : csum ds ns = none := by
  cases ns with
  | nil => cases g
  | cons n r =>
    obtain ⟨k, rfl⟩ : ∃ k, i = k + 1 := ⟨i - 1, by omega⟩
    rw [List.take_succ_cons, List.map_cons] at p
    rw [List.getElem?_cons_succ] at g
    obtain ⟨hk, g⟩ := List.getElem?_eq_some_iff.mp g
    rw [csum_cons]
    split
    · have e : r = r.take k ++ m :: r.drop (k + 1) := by
        rw [← g, ← List.drop_eq_getElem_cons hk, List.take_append_drop]
      rw [e, List.map_append, List.map_cons]
      generalize dsAt ds n = d at p
      obtain ⟨a, b, c⟩ := d
      cases p with
      | cons p => exact run_gap p h
    · rfl
def SumI (ds : List Df) (ns : List Int) (i : Nat) (t : Int) : Prop := (∀ j m, j < i → ns[j]? = some m → 0 ≤ m ∧ m < ds.length) ∧ (i = 0 ∧ t = 0 ∨ 0 < i ∧ Path ((ns.take i).map (dsAt ds)) (dsAt ds (ns.getD 0 0)).1 (dsAt ds (ns.getD (i - 1) 0)).2.1 t)
theorem SumI.next {ds : List Df} {ns : List Int} {i : Nat} {t m : Int} (h : SumI ds ns i t) (g : ns[i]? = some m) (h0 : 0 ≤ m) (h1 : m < ds.length) (k : 0 < i → (dsAt ds (ns.getD (i - 1) 0)).2.1 = (dsAt ds m).1) : SumI ds ns (i + 1) (t + (dsAt ds m).2.2) := by
  have gd : ns.getD i 0 = m := by rw [List.getD_eq_getElem?_getD, g]; rfl
  refine ⟨fun j x hj gx => ?_, .inr ⟨Nat.succ_pos _, ?_⟩⟩
  · by_cases e : j = i
    · subst e
      rw [g] at gx
      cases gx
      exact ⟨h0, h1⟩
    · exact h.1 j x (by omega) gx
  · rw [Nat.add_sub_cancel, gd, List.take_succ, g, List.map_append]
    rcases h.2 with ⟨e1, e2⟩ | ⟨e1, p⟩
    · subst e1 e2
      rw [gd, Int.zero_add]
      exact Path.one
    · refine p.app ?_
      rw [k e1]
      exact Path.one
section
variable {P : Program} {w : World} {K : PySem.W.Frag} {mg : Str → Option Value} {base : Heap}
theorem k_law_sum (T : Tx K mg) : C8.Cal P w K mg base 1 "_law_sum" (spChain K) [] := by
  refine cal_of (N := n_law_sum) T.d_law_sum sc_law_sum (fun _ _ F => F.bindsN fun _ _ _ _ _ _ us hl => match us, hl with | [_, _], _ => rfl) (fun vs H Q E h => ?_) (fun f cdv A outer s H vs Q E hr h => ?_)
  · obtain ⟨a, b, us, ds, ns, rfl, _⟩ := h
    rfl
  · obtain ⟨a, b, us, ds, ns, rfl, hA, tA, hB, ld, ln, qn, qs⟩ := h
    refine ⟨_, (pss_cons (ps_if (pt_cmpR (op_eq2 hr.units : OpR _ _ (rEq2 K)) (pe_callB (call_len2 : CallR _ _ (rLn K)) (by rfl) T.z_len (by decide +kernel) (pa_cons (pv 1) pa_nil)) pe_int (nomark _)) (pss_one (ps_ret pe_non)) pss_nil) (pss_cons (ps_asg pe_int (pg_name (i := 2) sc_law_sum.nd rfl (Or.inl rfl))) (pss_cons (ps_for PassesOwn.never rfl (pi_range1 (by rfl) T.z_range (pa_cons (pe_callB (call_len2 : CallR _ _ (rLn K)) (by rfl) T.z_len (by decide +kernel) (pa_cons (pv 1) pa_nil)) pa_nil)) (pg_name (i := 3) sc_law_sum.nd rfl (Or.inl rfl)) (pss_cons (ps_if (PW.pt (pw_or (pt_cmpR op_lt (pe_ix (ix_seq : IxR _ (rIx K)) (pv 1) (pv 3) (fun _ _ => rfl)) pe_int (nomark _)) (pw_or1 (pt_cmpR op_ge (pe_ix (ix_seq : IxR _ (rIx K)) (pv 1) (pv 3) (fun _ _ => rfl)) (pe_callB (call_len2 : CallR _ _ (rLn K)) (by rfl) T.z_len (by decide +kernel) (pa_cons (pv 0) pa_nil)) (nomark _))))) (pss_one (ps_ret pe_non)) pss_nil) (pss_cons (ps_if (PW.pt (pw_and (pt_cmpR op_gt (pv 3) pe_int (nomark _)) (pw_and1 (pt_cmpR (op_ne2 hr.units : OpR _ _ (rNe2 K)) (pe_ix (ix_seq : IxR _ (rIx K)) (pe_ix (ix_seq : IxR _ (rIx K)) (pv 0) (pe_ix (ix_seq : IxR _ (rIx K)) (pv 1) (pe_op op_sub (pv 3) pe_int) (fun _ _ => rfl)) (fun _ _ => rfl)) pe_int (fun _ _ => rfl)) (pe_ix (ix_seq : IxR _ (rIx K)) (pe_ix (ix_seq : IxR _ (rIx K)) (pv 0) (pe_ix (ix_seq : IxR _ (rIx K)) (pv 1) (pv 3) (fun _ _ => rfl)) (fun _ _ => rfl)) pe_int (fun _ _ => rfl)) (nomark _))))) (pss_one (ps_ret pe_non)) pss_nil) (pss_one (ps_asg (pe_op op_add3 (pv 2) (pe_ix (ix_seq : IxR _ (rIx K)) (pe_ix (ix_seq : IxR _ (rIx K)) (pv 0) (pe_ix (ix_seq : IxR _ (rIx K)) (pv 1) (pv 3) (fun _ _ => rfl)) (fun _ _ => rfl)) pe_int (fun _ _ => rfl))) (pg_name (i := 2) sc_law_sum.nd rfl (Or.inl rfl))))))) (pss_one (ps_ret (pe_tup (pa_cons (pe_ix (ix_seq : IxR _ (rIx K)) (pe_ix (ix_seq : IxR _ (rIx K)) (pv 0) (pe_ix (ix_seq : IxR _ (rIx K)) (pv 1) pe_int (fun _ _ => rfl)) (fun _ _ => rfl)) pe_int (fun _ _ => rfl)) (pa_cons (pe_ix (ix_seq : IxR _ (rIx K)) (pe_ix (ix_seq : IxR _ (rIx K)) (pv 0) (pe_ix (ix_seq : IxR _ (rIx K)) (pv 1) (pe_un un_neg pe_int) (fun _ _ => rfl)) (fun _ _ => rfl)) pe_int (fun _ _ => rfl)) (pa_cons (pv 2) pa_nil))))))))), ?_⟩
    have lu := tA.length
    rw [List.length_map] at lu
    have get : ∀ {H2 : Hp} {x : Int}, TpAll H2 us (ds.map dfD) → 0 ≤ x → x < ds.length → ∃ p, us[x.toNat]? = some (.ref p) ∧ H2 p = some (.tup [.int (dsAt ds x).1, .int (dsAt ds x).2.1, .int (dsAt ds x).2.2]) := fun {H2 x} t h1 h2 => by
      have gd : ds[x.toNat]? = some (dsAt ds x) := by
        unfold dsAt
        rw [List.getD_eq_getElem?_getD, List.getElem?_eq_getElem (by omega)]
        rfl
      obtain ⟨u, gu, tu⟩ := tpAt t gd
      obtain ⟨p, _, _, _, rfl, ep, t1, t2, t3⟩ := WQ.tp3 tu
      cases t1
      cases t2
      cases t3
      exact ⟨p, gu, ep⟩
    walk_at "xx"
    refine b_lenQ hB ?_
    rw [List.length_map]
    walk_at "xx"
    refine iteI (fun e => ?_) (fun e => ?_)
    · walk_at "xx"
      have : ns = [] := List.eq_nil_of_length_eq_zero (by omega)
      subst this
      exact qn rfl _ (Same.refl _)
    walk_at "xx"
    refine b_lenQ hB ?_
    rw [List.length_map]
    walk_at "xx"
    refine f_range (fun i σ H' => ∃ z2, ∃ t : Int, σ = [some (.ref a), some (.ref b), some (.int t), z2] ∧ Same H H' ∧ SumI ds ns i t)
      ⟨_, _, rfl, Same.refl _, fun _ _ h => absurd h (Nat.not_lt_zero _), .inl ⟨rfl, rfl⟩⟩ (fun i σ H3 hi p => ?_) (fun σ H3 p => ?_)
    · obtain ⟨z2, t, rfl, s3, inv⟩ := p
      have hi : i < ns.length := by omega
      have gi : ns[i]? = some ns[i] := List.getElem?_eq_getElem hi
      rw [Int.zero_add]
      generalize ns[i] = m at gi
      walk_at "xx"
      refine ix_intQ (hB.same s3) (by omega) (by omega) fun x gx => ?_
      rw [Int.toNat_natCast, gi] at gx
      cases gx
      walk_at "xx"
      have out : ∀ H2, Same H H2 → csum ds ns = none → Q .non H2 := fun H2 s2 e => qn e H2 s2
      refine iteD (fun e0 => ?_) (fun e0 => ?_)
      · walk_at "xx"
        exact out _ s3 (csum_out gi (by unfold inB; rw [decide_eq_false (by omega)]; rfl))
      walk_at "xx"
      refine ix_intQ (hB.same s3) (by omega) (by omega) fun x gx => ?_
      rw [Int.toNat_natCast, gi] at gx
      cases gx
      walk_at "xx"
      refine b_lenQ (hA.same s3) ?_
      walk_at "xx"
      refine iteD (fun e1 => ?_) (fun e1 => ?_)
      · walk_at "xx"
        exact out _ s3 (csum_out gi (by unfold inB; rw [decide_eq_false (show ¬ m < (ds.length : Int) by omega), Bool.and_false]))
      walk_at "xx"
      obtain ⟨pm, gpm, epm⟩ := get (tA.tk s3.tk) (x := m) (by omega) (by omega)
      refine iteD (fun e2 => ?_) (fun e2 => ?_)
      · have gj : ns[i - 1]? = some ns[i - 1] := List.getElem?_eq_getElem (by omega)
        have gd : ns.getD (i - 1) 0 = ns[i - 1] := by rw [List.getD_eq_getElem?_getD, gj]; rfl
        obtain ⟨r1, r2⟩ := inv.1 (i - 1) _ (by omega) gj
        have inv2 := inv.2
        generalize ns[i - 1] = l at gj r1 r2 gd
        rw [gd] at inv2
        obtain ⟨pl, gpl, epl⟩ := get (tA.tk s3.tk) (x := l) r1 r2
        walk_at "xx"
        refine ix_intQ (hB.same s3) (by omega) (by omega) fun x gx => ?_
        rw [show ((i : Int) - 1).toNat = i - 1 by omega, gj] at gx
        cases gx
        refine o_ixQ (hA.same s3) (atI_of (j := l.toNat) (by omega) gpl) ?_
        walk_at "xx"
        refine ix_intQ (hB.same s3) (by omega) (by omega) fun x gx => ?_
        rw [Int.toNat_natCast, gi] at gx
        cases gx
        refine o_ixQ (hA.same s3) (atI_of (j := m.toNat) (by omega) gpm) ?_
        walk_at "xx"
        refine iteNI (fun e3 => ?_) (fun e3 => ?_)
        · walk_at "xx"
          refine out _ s3 ?_
          rcases inv2 with ⟨h1, _⟩ | ⟨h1, pth⟩
          · omega
          · exact csum_gap pth h1 gi (fun e => e3 e.symm)
        · walk_at "xx"
          refine ix_intQ (hB.same s3) (by omega) (by omega) fun x gx => ?_
          rw [Int.toNat_natCast, gi] at gx
          cases gx
          refine o_ixQ (hA.same s3) (atI_of (j := m.toNat) (by omega) gpm) ?_
          walk_at "xx"
          exact ⟨_, _, rfl, s3, inv.next gi (by omega) (by omega) (fun _ => by rw [gd]; exact e3)⟩
      · walk_at "xx"
        refine ix_intQ (hB.same s3) (by omega) (by omega) fun x gx => ?_
        rw [Int.toNat_natCast, gi] at gx
        cases gx
        refine o_ixQ (hA.same s3) (atI_of (j := m.toNat) (by omega) gpm) ?_
        walk_at "xx"
        exact ⟨_, _, rfl, s3, inv.next gi (by omega) (by omega) (fun h => absurd h (by omega))⟩
    · obtain ⟨z2, t, rfl, s3, inv⟩ := p
      rw [Int.toNat_natCast] at inv
      rcases inv.2 with ⟨h1, _⟩ | ⟨h1, pth⟩
      · omega
      have n0 : ns[0]? = some ns[0] := List.getElem?_eq_getElem h1
      have n1 : ns[ns.length - 1]? = some ns[ns.length - 1] := List.getElem?_eq_getElem (by omega)
      have d0 : ns.getD 0 0 = ns[0] := by rw [List.getD_eq_getElem?_getD, n0]; rfl
      have d1 : ns.getD (ns.length - 1) 0 = ns[ns.length - 1] := by rw [List.getD_eq_getElem?_getD, n1]; rfl
      obtain ⟨r1, r2⟩ := inv.1 _ _ h1 n0
      obtain ⟨r3, r4⟩ := inv.1 _ _ (by omega) n1
      rw [d0, d1, List.take_length] at pth
      have ec := csum_path (ds := ds) (ns := ns) (fun x hx => by
        obtain ⟨j, gj⟩ := List.getElem?_of_mem hx
        exact inv.1 j x (List.getElem?_eq_some_iff.mp gj).1 gj) pth (fun e => by rw [e] at h1; exact absurd h1 (Nat.not_lt_zero _))
      generalize ns[0] = m0 at n0 d0 r1 r2 ec pth
      generalize hm1 : ns[ns.length - 1] = m1 at n1 d1 r3 r4 ec pth
      obtain ⟨p0, gp0, ep0⟩ := get (tA.tk s3.tk) (x := m0) r1 r2
      obtain ⟨p1, gp1, ep1⟩ := get (tA.tk s3.tk) (x := m1) r3 r4
      walk_at "xx"
      refine ix_intQ (hB.same s3) (by omega) (by omega) fun x gx => ?_
      rw [show (0 : Int).toNat = 0 from rfl, n0] at gx
      cases gx
      refine o_ixQ (hA.same s3) (atI_of (j := m0.toNat) (by omega) gp0) ?_
      walk_at "xx"
      have es : ns.map V.int = (ns.take (ns.length - 1)).map V.int ++ [.int m1] := by
        have := List.take_succ (l := ns) (i := ns.length - 1)
        rw [n1, show ns.length - 1 + 1 = ns.length by omega, List.take_length] at this
        conv =>
          lhs
          rw [this, List.map_append]
        rfl
      refine o_ixQ (hB.same s3) (v := .int m1) (by rw [es]; exact atI_last _ _) ?_
      refine o_ixQ (hA.same s3) (atI_of (j := m1.toNat) (by omega) gp1) ?_
      walk_at "xx"
      rename_i p H4 n4 s4 e4
      exact qs _ ec _ _ (s3.trans s4) (s3.free n4) e4
end
end K14
namespace K14
open PySem PySem.Spec PyProof.Rows L2 Wy WN WQ WS WC WE WB

-- WIDE
section
variable {P : Program} {w : World} {K : PySem.W.Frag} {mg : Str → Option Value} {base : Heap}
def spGoing (K : PySem.W.Frag) : Sp := fun vs H Q _ => ∃ (a d : Addr) (zs : List Int) (us : List V) (ds : List Df) (m : Int), vs = [.ref a, .ref d, .int m] ∧ SqL K H a (zs.map V.int) ∧ H d = some (.lst us) ∧ TpAll H us (ds.map dfD) ∧ ds ≠ [] ∧ ds.length ≤ 200 ∧
  ∀ p H' ns, Same H H' → H p = none → H' p = some (.lst ((ns : List Int).map V.int)) → ns ≠ [] → ns.length ≤ 30 → (∀ n ∈ ns, 0 ≤ n ∧ n < ds.length) → Q (.ref p) H'
theorem k_law_going (T : Tx K mg) : C8.Cal P w K mg base 3 "_law_going" (spGoing K) [] := by
  refine cal_of (N := n_law_going) T.d_law_going sc_law_going (fun _ _ F => F.bindsN fun _ _ _ _ _ _ us hl => match us, hl with | [_, _, _], _ => rfl) (fun vs H Q E h => ?_) (fun f cdv A outer s H vs Q E hr h => ?_)
  · obtain ⟨a, d, zs, us, ds, m, rfl, _⟩ := h
    rfl
  · obtain ⟨a, d, zs, us, ds, m, rfl, hA, hD, tD, ne, ld, q⟩ := h
    refine ⟨_, (pss_cons (ps_asg (C8.pe_c (k_law_draws T) hr (by first | decide | omega) (by rfl) (pa_cons (pv 0) (pa_cons pe_int (pa_cons (pe_lc (own := [("k", 3)]) (g := gName 3) (tt := tYes) (by rfl) sc_law_going.nd (pi_range1 (by rfl) T.z_range (pa_cons pe_int pa_nil)) (blkOk_by (own := [("k", 3)]) (N := n_law_going) (sc := defScope s_law_going) (by decide +kernel)) (fun _ _ _ _ _ => pg_name (i := 3) sc_law_going.nd rfl (Or.inl rfl)) (fun _ _ _ _ _ => pts_nil) (fun _ _ _ _ _ => pe_int)) pa_nil)))) (pg_name (i := 4) sc_law_going.nd rfl (Or.inl rfl))) (pss_cons (ps_asg (pe_lst pa_nil) (pg_name (i := 5) sc_law_going.nd rfl (Or.inr rfl))) (pss_cons (ps_for PassesOwn.never rfl (pi_range1 (by rfl) T.z_range (pa_cons (pe_op op_add3 pe_int (pe_op op_mod (pe_callTy call_int2 (by rfl) T.z_int (by decide +kernel) (pa_cons (pe_ix (ix_seq : IxR _ (rIx K)) (pv 4) pe_int (fun _ _ => rfl)) pa_nil)) (pe_ix (ix_seq : IxR _ (rIx K)) (pe_lst (pa_cons pe_int (pa_cons pe_int pa_nil))) (pe_op op_mod (pe_callTy call_int2 (by rfl) T.z_int (by decide +kernel) (pa_cons (pe_ix (ix_seq : IxR _ (rIx K)) (pv 4) pe_int (fun _ _ => rfl)) pa_nil)) pe_int) (fun _ _ => rfl)))) pa_nil)) (pg_name (i := 3) sc_law_going.nd rfl (Or.inr rfl)) (pss_cons (ps_setLc (i := 6) (own := [("j", 7)]) (g := gName 7) (tt := _) (by rfl) sc_law_going.nd rfl rfl (sw_true rfl rfl rfl (by decide +kernel)) (pi_range1 (by rfl) T.z_range (pa_cons (pe_callB (call_len2 : CallR _ _ (rLn K)) (by rfl) T.z_len (by decide +kernel) (pa_cons (pv 1) pa_nil)) pa_nil)) (blkOk_by (own := [("j", 7)]) (N := n_law_going) (sc := defScope s_law_going) (by decide +kernel)) (fun _ _ _ _ _ => pg_name (i := 7) sc_law_going.nd rfl (Or.inl rfl)) (fun _ _ _ _ _ => (pts_one (PW.pt (pw_or (pt_cmpR (op_eq2 hr.units : OpR _ _ (rEq2 K)) (pv 3) pe_int (nomark _)) (pw_or1 (pt_cmpR (op_eq2 hr.units : OpR _ _ (rEq2 K)) (pe_ix (ix_seq : IxR _ (rIx K)) (pe_ix (ix_seq : IxR _ (rIx K)) (pv 1) (pv 7) (fun _ _ => rfl)) pe_int (fun _ _ => rfl)) (pe_ix (ix_seq : IxR _ (rIx K)) (pe_ix (ix_seq : IxR _ (rIx K)) (pv 1) (pe_ix (ix_seq : IxR _ (rIx K)) (pv 5) (pe_un un_neg pe_int) (fun _ _ => rfl)) (fun _ _ => rfl)) pe_int (fun _ _ => rfl)) (nomark _))))))) (fun _ _ _ _ _ => (pv 7))) (pss_cons (ps_if (pt_cmpR (op_eq2 hr.units : OpR _ _ (rEq2 K)) (pe_callB (call_len2 : CallR _ _ (rLn K)) (by rfl) T.z_len (by decide +kernel) (pa_cons (pv 6) pa_nil)) pe_int (nomark _)) (pss_one ps_break) pss_nil) (pss_one (ps_expr (pe_bm PySem.F.plainAttrs_list PySem.F.slot_list_append PySem.F.type_list_append mt_append (pv 5) (pa_cons (pe_ix (ix_seq : IxR _ (rIx K)) (pv 6) (pe_op op_mod (pe_callTy call_int2 (by rfl) T.z_int (by decide +kernel) (pa_cons (pe_ix (ix_seq : IxR _ (rIx K)) (pv 4) (pv 3) (fun _ _ => rfl)) pa_nil)) (pe_callB (call_len2 : CallR _ _ (rLn K)) (by rfl) T.z_len (by decide +kernel) (pa_cons (pv 6) pa_nil))) (fun _ _ => rfl)) pa_nil) : PE _ _ (tBM K _ _ _ _))))))) (pss_one (ps_ret (pv 5)))))), ?_⟩
    have lu := tD.length
    rw [List.length_map] at lu
    have lp : 0 < ds.length := List.length_pos_iff.mpr ne
    walk_at "xx"
    refine c_constI (c := 1000) (fun _ _ _ h => ?_) (by omega) (fun _ => rfl) fun D H2 nD s2 e2 => ?_
    · walk_at "xx"
      exact h
    walk_at "xx"
    refine ⟨a, D, zs, _, 2, rfl, s2.seq hA, lst_of e2, ⟨by rw [List.length_replicate]; omega, fun s hs => by rw [(List.mem_replicate.mp hs).2]; decide +kernel⟩, fun dp H3 dr s3 n3 e3 hd => ?_⟩
    have l31 := hd.len
    rw [List.length_replicate, show (31 : Int).toNat = 31 from rfl] at l31
    walk_at "xx"
    rename_i np H4 n4 s4 e4
    refine ix_int (lst_of (s4 _ _ e3)) (by omega) (by omega) fun x gx => ?_
    walk_at "xx"
    rename_i cp H5 n5 s5 e5
    refine ix_int (lst_of (s5 _ _ (s4 _ _ e3))) (by omega) (by omega) fun y gy => ?_
    walk_at "xx"
    refine ix_int (xs := [12, 30]) (lst_of e5) (Int.emod_nonneg _ (by decide)) (Int.emod_lt_of_pos _ (by decide)) fun c gc => ?_
    have hc : 0 < c ∧ c ≤ 30 := by
      have := List.mem_of_getElem? gc
      simp only [List.mem_cons, List.not_mem_nil, or_false] at this
      omega
    refine o_modG hc.1 fun r r0 r1 => ?_
    walk_at "xx"
    have S5 : Same H H5 := s2.trans (s3.trans (s4.trans s5))
    have nN : H np = none := (s2.trans s3).free n4
    have e3' := s5 _ _ (s4 _ _ e3)
    obtain ⟨N, hN, hN1, hN30⟩ : ∃ N : Nat, (1 + r).toNat = N ∧ 1 ≤ N ∧ N ≤ 30 := ⟨_, rfl, by omega, by omega⟩
    have S35 := s4.trans s5
    have fin : ∀ H7 ns, Same H H7 → H7 np = some (.lst ((ns : List Int).map V.int)) → ns ≠ [] → ns.length ≤ 30 → (∀ n ∈ ns, 0 ≤ n ∧ n < ds.length) → Q (.ref np) H7 := fun H7 ns s7 e7 h1 h2 h3 => q _ _ ns s7 nN e7 h1 h2 h3
    refine f_range (fun i σ H' => ∃ z6 z7 z8, ∃ ns : List Int, σ = [some (.ref a), some (.ref d), some (.int m), z6, some (.ref dp), some (.ref np), z8, z7] ∧ Same H H' ∧ H' dp = some (.lst (dr.map V.int)) ∧ H' np = some (.lst (ns.map V.int)) ∧ ns.length = i ∧ ∀ n ∈ ns, 0 ≤ n ∧ n < ds.length)
      ⟨_, _, _, [], rfl, S5, e3', s5 _ _ e4, rfl, fun _ h => by cases h⟩ (fun i σ H6 hi p => ?_) (fun σ H6 p => ?_)
    · obtain ⟨z6, z7, z8, ns, rfl, s6, e6, f6, l6, r6⟩ := p
      rw [Int.zero_add]
      have hi : i < N := by omega
      walk_at "xx"
      refine b_lenL (lst_of (s6 _ _ hD)) ?_
      rw [lu]
      walk_at "xx"
      refine c_accR (fun j acc _ => ∃ js : List Int, acc = js.map V.int ∧ js.length ≤ j ∧ (i = 0 → js.length = j) ∧ ∀ x ∈ js, 0 ≤ x ∧ x < ds.length) (fun _ _ _ _ _ h => h)
        (fun j acc H hi h => small1000' (by obtain ⟨js, rfl, h, _⟩ := h; rw [List.length_map]; omega)) ⟨[], rfl, Nat.le_refl _, fun _ => rfl, fun _ h => by cases h⟩ (fun j H7 acc N M hj s7 o hN hM => ?_) (fun O H7 ys nO s7 e7 o => ?_)
      · obtain ⟨js, rfl, o1, o2, o3⟩ := o
        have hj : j < ds.length := by omega
        have put : ∀ H3, Same H7 H3 → N (.int j) H3 := fun H3 s3 => hN _ _ s3 ⟨js ++ [(j : Int)], by rw [List.map_append]; rfl, by rw [List.length_append]; exact Nat.succ_le_succ o1, fun h => by rw [List.length_append, o2 h]; rfl, fun x hx => by
          rcases List.mem_append.mp hx with hx | hx
          · exact o3 x hx
          · rw [List.mem_singleton.mp hx]
            omega⟩
        have skip : 0 < i → M H7 := fun h => hM _ (Same.refl _) ⟨js, rfl, by omega, fun h => by omega, o3⟩
        rw [Int.zero_add]
        walk_at "xx"
        refine ⟨rfl, ?_⟩
        walk_at "xx"
        refine iteI (fun e => ?_) (fun e => ?_)
        · walk_at "xx"
          exact put _ (Same.refl _)
        · have hi0 : 0 < i := by omega
          obtain ⟨u, gu, tu⟩ := tpAt (tD.tk (s6.trans s7).tk) (List.getElem?_eq_getElem hj)
          obtain ⟨p1, _, _, _, rfl, ep, t1, t2, t3⟩ := WQ.tp3 tu
          cases t1
          cases t2
          cases t3
          have nl : ns[ns.length - 1]? = some ns[ns.length - 1] := List.getElem?_eq_getElem (by omega)
          have inl := r6 _ (List.mem_of_getElem? nl)
          generalize ns[ns.length - 1] = l at nl inl
          have es : ns.map V.int = (ns.take (ns.length - 1)).map V.int ++ [.int l] := by
            have := List.take_succ (l := ns) (i := ns.length - 1)
            rw [nl, show ns.length - 1 + 1 = ns.length by omega, List.take_length] at this
            conv =>
              lhs
              rw [this, List.map_append]
            rfl
          obtain ⟨v, gv, tv⟩ := tpAt (tD.tk (s6.trans s7).tk) (List.getElem?_eq_getElem (show l.toNat < ds.length by omega))
          obtain ⟨p2, _, _, _, rfl, eq, t1, t2, t3⟩ := WQ.tp3 tv
          cases t1
          cases t2
          cases t3
          walk_at "xx"
          refine o_ixL (lst_of ((s6.trans s7) _ _ hD)) (atI_nat gu) ?_
          walk_at "xx"
          refine o_ixL (lst_of (s7 _ _ f6)) (v := .int l) (by rw [es]; exact atI_last _ _) ?_
          refine o_ixL (lst_of ((s6.trans s7) _ _ hD)) (atI_of (j := l.toNat) (by omega) gv) ?_
          walk_at "xx"
          refine iteI (fun e => ?_) (fun e => ?_)
          · walk_at "xx"
            exact put _ (Same.refl _)
          · exact skip hi0
      · obtain ⟨js, rfl, o1, o2, o3⟩ := o
        walk_at "xx"
        refine b_lenL (lst_of e7) ?_
        rw [List.length_map]
        walk_at "xx"
        refine iteI (fun e => ?_) (fun e => ?_)
        · walk_at "xx"
          refine fin _ ns (s6.trans s7) (s7 _ _ f6) (fun h => ?_) (by omega) r6
          rw [h] at l6
          have := o2 l6.symm
          omega
        · walk_at "xx"
          refine m_ty (lst_of (s7 _ _ f6)) ?_
          walk_at "xx"
          refine ix_int (lst_of (s7 _ _ e6)) (by omega) (by omega) fun x gx => ?_
          walk_at "xx"
          refine b_lenL (lst_of e7) ?_
          rw [List.length_map]
          refine o_modG (by omega) fun r r0 r1 => ?_
          refine ix_int (lst_of e7) r0 r1 fun x gx => ?_
          have hx := o3 x (List.mem_of_getElem? gx)
          walk_at "xx"
          refine m_app (s7 _ _ f6) (small1000' (by rw [List.length_map]; omega)) fun H8 c8 e8 => ?_
          have ndn : dp ≠ np := ne_of_none e3 n4
          walk_at "xx"
          refine ⟨_, _, _, ns ++ [x], rfl, c8.same (s6.trans s7) nN, c8.at (s7 _ _ e6) ndn, by rw [e8, List.map_append]; rfl, by rw [List.length_append, l6]; rfl, fun n hn => ?_⟩
          rcases List.mem_append.mp hn with hn | hn
          · exact r6 n hn
          · rw [List.mem_singleton.mp hn]
            exact hx
    · obtain ⟨z6, z7, z8, ns, rfl, s6, e6, f6, l6, r6⟩ := p
      walk_at "xx"
      exact fin _ ns s6 f6 (fun h => by rw [h] at l6; simp at l6; omega) (by omega) r6
end
end K14
namespace K14
open PySem PySem.Spec PyProof.Rows L2 Wy WN WQ WS WC WE WB

-- WIDE
theorem cutMid (xs : List V) {i j : Nat} (h : i ≤ j) (hl : j ≤ xs.length) : cutV xs (some (i : Int)) (some (j : Int)) = (xs.drop i).take (j - i) := by
  unfold cutV
  rw [HT.sIx_nat, HT.sIx_nat, Nat.min_eq_left hl, Nat.min_eq_left (by omega)]
section
variable {K : PySem.W.Frag} {σ : L2.St} {H : Hp} {Q : VK} {te : TE} {vs : List Nat} {i : Nat} {a : Addr}
theorem One.intsP {P : Nat → V → Hp → Prop} {R : Int → Prop} {n : Nat} {acc : List V} {H : Hp} (o : One P n acc H) (h : ∀ j y, j < n → P j y H → ∃ i : Int, y = .int i ∧ R i) : ∃ xs : List Int, acc = xs.map V.int ∧ xs.length = n ∧ ∀ x ∈ xs, R x := by
  obtain ⟨xs, e, l⟩ := o.ints fun j y hj p => by
    obtain ⟨i, e, _⟩ := h j y hj p
    exact ⟨i, e⟩
  refine ⟨xs, e, l, fun x hx => ?_⟩
  obtain ⟨j, gj⟩ := List.getElem?_of_mem hx
  have hj : j < n := by
    have := (List.getElem?_eq_some_iff.mp gj).1
    omega
  have ga : acc[j]? = some (.int x) := by rw [e, List.getElem?_map, gj]; rfl
  obtain ⟨i, e2, r⟩ := h j _ hj (o.2 j _ ga)
  cases e2
  exact r
/-- bounded ints from each int -/
theorem c_intsP {R : Int → Prop} {xs : List Int} (hs : SqL K H a (xs.map V.int)) (hte : ∀ (x : Int) H (N : VK), (∀ r : Int, R r → N (.int r) H) → te ((wipe σ vs).set i (some (.int x))) H N) (hz : xs.length ≤ 100000) (hw : ∀ x, wipe ((wipe σ vs).set i (some x)) vs = wipe σ vs)
    (post : ∀ D H2 (rs : List Int), H D = none → Same H H2 → rs.length = xs.length → (∀ r ∈ rs, R r) → H2 D = some (.lst (rs.map V.int)) → Q (.ref D) H2) : LoopC (Itl K a) (gName i) tYes te vs σ H Q := by
  refine c_acc (xs := xs.map V.int) (.inl ⟨rfl, hs⟩) (One fun j y _ => ∃ r : Int, y = .int r ∧ R r) (fun _ _ _ _ _ h => h) (fun i acc H hi h => small1000' (by rw [h.1]; rw [List.length_map] at hi; omega)) One.zero (fun j x H1 acc N M hx s1 o hN hM => ?_) (fun D H1 ys nD s1 e1 o => ?_)
  · rw [List.getElem?_map] at hx
    obtain ⟨d, gd, rfl⟩ := Option.map_eq_some_iff.mp hx
    refine g_name ⟨hw _, t_yes ?_⟩
    exact iteTT rfl (hte _ _ _ fun r hr => hN _ _ (Same.refl _) (o.snoc (fun _ _ h => h) ⟨r, rfl, hr⟩))
  · rw [List.length_map] at o
    obtain ⟨rs, rfl, lr, hr⟩ := One.intsP o fun _ _ _ h => h
    exact post D H1 rs nD s1 lr hr e1
end
theorem tpSet {H : Hp} {us : List V} {ds : List PyData} {v : V} {d : PyData} : ∀ {i : Nat} {us : List V} {ds : List PyData}, TpAll H us ds → Tp H v d → TpAll H (us.set i v) (ds.set i d)
  | _, _, _, .nil, _ => .nil
  | 0, _, _, .cons _ t, h => .cons h t
  | i + 1, _, _, .cons a t, h => .cons a (tpSet (us := us) (ds := ds) t h)
theorem tpDrop {H : Hp} : ∀ {i : Nat} {us : List V} {ds : List PyData}, TpAll H us ds → TpAll H (us.drop i) (ds.drop i)
  | 0, _, _, t => t
  | _ + 1, _, _, .nil => .nil
  | i + 1, _, _, .cons _ t => tpDrop (i := i) t
def edO (nd ws : List Int) (k : Nat) : Df := (nd.getD k 0, nd.getD (k + 1) 0, ws.getD k 0)
theorem bd_mono {n m : Nat} {i : Int} (h : Bd n i) (k : n ≤ m) : Bd m i := Nat.lt_of_lt_of_le h (Nat.pow_le_pow_right (by decide) k)
theorem bd_sum : ∀ {xs : List Int}, xs.length ≤ 10 → (∀ x ∈ xs, Bd 40 x) → Bd 42 xs.sum := by
  have key : ∀ xs : List Int, (∀ x ∈ xs, Bd 40 x) → -(xs.length * 10 ^ 40 : Int) ≤ xs.sum ∧ xs.sum ≤ (xs.length * 10 ^ 40 : Int) := by
    intro xs
    induction xs with
    | nil => intro _; exact ⟨by decide, by decide⟩
    | cons x r ih =>
      intro h
      obtain ⟨h1, h2⟩ := ih fun y hy => h y (List.mem_cons_of_mem _ hy)
      have h3 := Bd.iff.mp (h x List.mem_cons_self)
      rw [List.sum_cons, List.length_cons]
      omega
  intro xs hl h
  obtain ⟨h1, h2⟩ := key xs h
  rw [Bd.iff]
  omega
theorem bd_sub {i j : Int} (h1 : Bd 42 i) (h2 : Bd 42 j) : Bd 43 (i - j) := by
  rw [Bd.iff] at h1 h2 ⊢
  omega
theorem bd_sml {i : Int} {n : Nat} (h0 : -1000 ≤ i) (h1 : i ≤ 1000) (hn : 10 ≤ n) : Bd n i := bd_mono (n := 10) (by rw [Bd.iff]; omega) hn
/-- what is drawn: differences and numbers -/
structure Dn (m : Nat) (ds : List Df) (ns : List Int) : Prop where
  ld : ds.length ≤ 50
  ln : ns.length ≤ 100
  dd : ∀ d ∈ ds, InR m d ∧ Bd 43 d.2.2
  nn : ∀ n ∈ ns, Bd 10 n
def spPath (K : PySem.W.Frag) : Sp := fun vs H Q _ => ∃ (a d : Addr) (zs : List Int) (us : List V) (ds : List Df) (m : Nat) (b : Bool), vs = [.ref a, .ref d, .int m, .bl b] ∧ SqL K H a (zs.map V.int) ∧ H d = some (.lst us) ∧ TpAll H us (ds.map dfD) ∧ ds.length ≤ 40 ∧ m ≤ 1000 ∧ (∀ d ∈ ds, InR m d ∧ Bd 43 d.2.2) ∧
  ∀ t p n H' us' ds' ns, Same H H' → H' t = some (.tup [.ref p, .ref n]) → H' p = some (.lst us') → TpAll H' us' ((ds' : List Df).map dfD) → H' n = some (.lst ((ns : List Int).map V.int)) → Dn m ds' ns → Q (.ref t) H'
section
variable {P : Program} {w : World} {K : PySem.W.Frag} {mg : Str → Option Value} {base : Heap}
theorem k_law_path (T : Tx K mg) : C8.Cal P w K mg base 3 "_law_path" (spPath K) [] := by
  refine cal_of (N := n_law_path) T.d_law_path sc_law_path (fun _ _ F => F.bindsN fun _ _ _ _ _ _ us hl => match us, hl with | [_, _, _, _], _ => rfl) (fun vs H Q E h => ?_) (fun f cdv A outer s H vs Q E hr h => ?_)
  · obtain ⟨a, d, zs, us, ds, m, b, rfl, _⟩ := h
    rfl
  · obtain ⟨a, d, zs, us, ds, m, b, rfl, hA, hD, tD, ld, lm, hin, q⟩ := h
    refine ⟨_, (pss_cons (ps_asg (C8.pe_c (k_law_draws T) hr (by first | decide | omega) (by rfl) (pa_cons (pv 0) (pa_cons pe_int (pa_cons (pe_op op_add3 (pe_lst (pa_cons pe_int (pa_cons pe_int (pa_cons pe_int pa_nil)))) (pe_lc (own := [("k", 14)]) (g := gName 14) (tt := tYes) (by rfl) sc_law_path.nd (pi_range1 (by rfl) T.z_range (pa_cons pe_int pa_nil)) (blkOk_by (own := [("k", 14)]) (N := n_law_path) (sc := defScope s_law_path) (by decide +kernel)) (fun _ _ _ _ _ => pg_name (i := 14) sc_law_path.nd rfl (Or.inl rfl)) (fun _ _ _ _ _ => pts_nil) (fun _ _ _ _ _ => (pe_op op_add3 (pv 2) pe_int)))) pa_nil)))) (pg_name (i := 4) sc_law_path.nd rfl (Or.inl rfl))) (pss_cons (ps_asg (pe_lc (own := [("draw", 13)]) (g := gName 13) (tt := tYes) (by rfl) sc_law_path.nd (pi_list (C8.pe_c (k_law_draws T) hr (by first | decide | omega) (by rfl) (pa_cons (pv 0) (pa_cons pe_int (pa_cons (pe_lc (own := [("k", 14)]) (g := gName 14) (tt := tYes) (by rfl) sc_law_path.nd (pi_range1 (by rfl) T.z_range (pa_cons pe_int pa_nil)) (blkOk_by (own := [("k", 14)]) (N := n_law_path) (sc := defScope s_law_path) (by decide +kernel)) (fun _ _ _ _ _ => pg_name (i := 14) sc_law_path.nd rfl (Or.inl rfl)) (fun _ _ _ _ _ => pts_nil) (fun _ _ _ _ _ => (pe_op op_pow pe_int pe_int))) pa_nil)))) : PI _ _ _ (iList K _)) (blkOk_by (own := [("draw", 13)]) (N := n_law_path) (sc := defScope s_law_path) (by decide +kernel)) (fun _ _ _ _ _ => pg_name (i := 13) sc_law_path.nd rfl (Or.inl rfl)) (fun _ _ _ _ _ => pts_nil) (fun _ _ _ _ _ => (C8.pe_c (k_law_weight T) hr (by first | decide | omega) (by rfl) (pa_cons (pv 13) pa_nil)))) (pg_name (i := 5) sc_law_path.nd rfl (Or.inr rfl))) (pss_cons (ps_asg (pe_slice (sl_2 : SlR _ (rSl2 K)) (pv 4) (po_some pe_int) (po_some (pe_op op_add3 pe_int (pe_ix (ix_seq : IxR _ (rIx K)) (pv 4) pe_int (fun _ _ => rfl))))) (pg_name (i := 6) sc_law_path.nd rfl (Or.inr rfl))) (C8.pss_cut (ps_if (pt_tr (pv 3) : PT _ _ (tTr K _)) (pss_one (ps_asg (pe_op op_add3 (pv 6) (pe_slice (sl_2 : SlR _ (rSl2 K)) (pv 6) po_none (po_some pe_int))) (pg_name (i := 6) sc_law_path.nd rfl (Or.inr rfl)))) (pss_one (ps_asg (pe_op op_add3 (pe_lst (pa_cons pe_int pa_nil)) (pv 6)) (pg_name (i := 6) sc_law_path.nd rfl (Or.inr rfl))))) (pss_cons (ps_asg (pe_op op_sub (pe_callB (call_len2 : CallR _ _ (rLn K)) (by rfl) T.z_len (by decide +kernel) (pa_cons (pv 6) pa_nil)) pe_int) (pg_name (i := 7) sc_law_path.nd rfl (Or.inr rfl))) (pss_cons (ps_setLc (i := 8) (own := [("k", 14)]) (g := gName 14) (tt := tYes) (by rfl) sc_law_path.nd rfl rfl (sw_true rfl rfl rfl (by decide +kernel)) (pi_range1 (by rfl) T.z_range (pa_cons (pv 7) pa_nil)) (blkOk_by (own := [("k", 14)]) (N := n_law_path) (sc := defScope s_law_path) (by decide +kernel)) (fun _ _ _ _ _ => pg_name (i := 14) sc_law_path.nd rfl (Or.inl rfl)) (fun _ _ _ _ _ => pts_nil) (fun _ _ _ _ _ => (pe_tup (pa_cons (pe_ix (ix_seq : IxR _ (rIx K)) (pv 6) (pv 14) (fun _ _ => rfl)) (pa_cons (pe_ix (ix_seq : IxR _ (rIx K)) (pv 6) (pe_op op_add3 (pv 14) pe_int) (fun _ _ => rfl)) (pa_cons (pe_ix (ix_seq : IxR _ (rIx K)) (pv 5) (pv 14) (fun _ _ => rfl)) pa_nil)))))) (C8.pss_cut (ps_if (pt_tr (pv 3) : PT _ _ (tTr K _)) (pss_cons (ps_asg (pe_ix (ix_seq : IxR _ (rIx K)) (pe_lst (pa_cons (pe_un un_neg pe_int) (pa_cons pe_int (pa_cons pe_int (pa_cons (pe_un un_neg pe_int) (pa_cons (pe_ix (ix_seq : IxR _ (rIx K)) (pv 5) pe_int (fun _ _ => rfl)) (pa_cons (pe_un un_neg pe_int) pa_nil))))))) (pe_ix (ix_seq : IxR _ (rIx K)) (pv 4) pe_int (fun _ _ => rfl)) (fun _ _ => rfl)) (pg_name (i := 9) sc_law_path.nd rfl (Or.inl rfl))) (pss_cons (ps_asg (pe_callC cc_sum (by rfl) T.z_sum (by decide +kernel) (pa_cons (pe_lc (own := [("edge", 15)]) (g := gName 15) (tt := tYes) (by rfl) sc_law_path.nd (pi_list (pe_slice (sl_2 : SlR _ (rSl2 K)) (pv 8) (po_some pe_int) po_none) : PI _ _ _ (iList K _)) (blkOk_by (own := [("edge", 15)]) (N := n_law_path) (sc := defScope s_law_path) (by decide +kernel)) (fun _ _ _ _ _ => pg_name (i := 15) sc_law_path.nd rfl (Or.inl rfl)) (fun _ _ _ _ _ => pts_nil) (fun _ _ _ _ _ => (pe_ix (ix_seq : IxR _ (rIx K)) (pv 15) pe_int (fun _ _ => rfl)))) pa_nil)) (pg_name (i := 10) sc_law_path.nd rfl (Or.inl rfl))) (pss_one (ps_asg (pe_tup (pa_cons (pe_ix (ix_seq : IxR _ (rIx K)) (pe_ix (ix_seq : IxR _ (rIx K)) (pv 8) pe_int (fun _ _ => rfl)) pe_int (fun _ _ => rfl)) (pa_cons (pe_ix (ix_seq : IxR _ (rIx K)) (pe_ix (ix_seq : IxR _ (rIx K)) (pv 8) pe_int (fun _ _ => rfl)) pe_int (fun _ _ => rfl)) (pa_cons (pe_op op_sub (pv 9) (pv 10)) pa_nil)))) (pg_sub (pv 8) pe_int set_list))))) pss_nil) (pss_cons (ps_setLc (i := 11) (own := [("k", 14)]) (g := gName 14) (tt := tYes) (by rfl) sc_law_path.nd rfl rfl (sw_true rfl rfl rfl (by decide +kernel)) (pi_range1 (by rfl) T.z_range (pa_cons (pv 7) pa_nil)) (blkOk_by (own := [("k", 14)]) (N := n_law_path) (sc := defScope s_law_path) (by decide +kernel)) (fun _ _ _ _ _ => pg_name (i := 14) sc_law_path.nd rfl (Or.inl rfl)) (fun _ _ _ _ _ => pts_nil) (fun _ _ _ _ _ => (pe_op op_sub (pe_op op_sub (pe_op op_add3 (pe_callB (call_len2 : CallR _ _ (rLn K)) (by rfl) T.z_len (by decide +kernel) (pa_cons (pv 1) pa_nil)) (pv 7)) pe_int) (pv 14)))) (C8.pss_cut (ps_if (pt_tr (pv 3) : PT _ _ (tTr K _)) (pss_cons (ps_asg (pe_op op_mod (pe_callTy call_int2 (by rfl) T.z_int (by decide +kernel) (pa_cons (pe_ix (ix_seq : IxR _ (rIx K)) (pv 4) pe_int (fun _ _ => rfl)) pa_nil)) (pv 7)) (pg_name (i := 12) sc_law_path.nd rfl (Or.inl rfl))) (pss_one (ps_asg (pe_op op_add3 (pe_slice (sl_2 : SlR _ (rSl2 K)) (pv 11) (po_some (pv 12)) po_none) (pe_slice (sl_2 : SlR _ (rSl2 K)) (pv 11) po_none (po_some (pv 12)))) (pg_name (i := 11) sc_law_path.nd rfl (Or.inl rfl))))) pss_nil) (pss_one (ps_ret (pe_tup (pa_cons (pe_op op_add3 (pv 1) (pe_revL (pv 8) : PE _ _ (tRevL K _))) (pa_cons (pv 11) pa_nil)))))))))))))), ?_⟩
    have lu := tD.length
    rw [List.length_map] at lu
    walk_at "xx"
    rename_i lp H1 n1 s1 e1
    refine c_rng (fun _ => (m : Int) + 1) (fun j H N hj h => ?_) (by omega) (fun _ => rfl) fun D H2 nD s2 e2 => ?_
    · walk_at "xx"
      exact h
    walk_at "xx"
    refine o_addL (s2 _ _ e1) e2 (by simp only [List.length_map, List.length_range]; exact lz (by decide)) fun sp H3 n3 s3 e3 => ?_
    have e3 : H3 sp = some (.lst (([8, 6, 5, (m : Int) + 1, m + 1, m + 1, m + 1, m + 1, m + 1, m + 1, m + 1] : List Int).map V.int)) := e3
    walk_at "xx"
    refine ⟨a, sp, zs, _, 3, rfl, (s1.trans (s2.trans s3)).seq hA, lst_of e3, ⟨by show 11 ≤ 1000; decide, fun s hs => ?_⟩, fun dp H4 dr s4 n4 e4 hd => ?_⟩
    · simp only [List.mem_cons, List.not_mem_nil, or_false] at hs
      omega
    have l11 := hd.len
    have l11 : dr.length = 11 := l11
    obtain ⟨d0, hd0, h00, h01⟩ := hd.at (i := 0) (s := 8) rfl
    obtain ⟨d1, hd1, h10, h11⟩ := hd.at (i := 1) (s := 6) rfl
    obtain ⟨d2, hd2, h20, h21⟩ := hd.at (i := 2) (s := 5) rfl
    have hdn : ∀ x ∈ dr.drop 3, 0 ≤ x ∧ x ≤ m := fun x hx => by
      obtain ⟨j, gj⟩ := List.getElem?_of_mem hx
      rw [List.getElem?_drop] at gj
      obtain ⟨s, gs, h1, h2⟩ := hd.get gj
      have hj := (List.getElem?_eq_some_iff.mp gj).1
      have : s = (m : Int) + 1 := by
        match j, gs with
        | 0, gs => exact (Option.some.inj gs).symm
        | 1, gs => exact (Option.some.inj gs).symm
        | 2, gs => exact (Option.some.inj gs).symm
        | 3, gs => exact (Option.some.inj gs).symm
        | 4, gs => exact (Option.some.inj gs).symm
        | 5, gs => exact (Option.some.inj gs).symm
        | 6, gs => exact (Option.some.inj gs).symm
        | 7, gs => exact (Option.some.inj gs).symm
        | j + 8, _ => omega
      omega
    obtain ⟨k0, rfl⟩ : ∃ k : Nat, d0 = k := ⟨d0.toNat, by omega⟩
    have S4 : Same H H4 := s1.trans (s2.trans (s3.trans s4))
    clear hd s1 s2 s3 s4 e1 e2 e3 n1 nD n3 n4
    walk_at "xx"
    refine c_constI (c := 10 ^ 42) (fun _ _ _ h => ?_) (by omega) (fun _ => rfl) fun D H5 nD s5 e5 => ?_
    · walk_at "xx"
      exact h
    walk_at "xx"
    refine ⟨a, D, zs, _, 4, rfl, (S4.trans s5).seq hA, lst_of e5, ⟨by rw [List.length_replicate]; omega, fun s hs => by rw [(List.mem_replicate.mp hs).2]; decide +kernel⟩, fun dp2 H6 dr2 s6 n6 e6 hd2 => ?_⟩
    have ld2 := hd2.len
    rw [List.length_replicate, show (9 : Int).toNat = 9 from rfl] at ld2
    walk_at "xx"
    refine c_intsP (R := Bd 40) (lst_of e6) (fun x H N hN => ?_) (by omega) (fun _ => rfl) fun wp H7 ws nW s7 l7 b7 e7 => ?_
    · walk_at "xx"
      refine ⟨x, rfl, fun r hr => ?_⟩
      exact hN r hr
    have lw : ws.length = 9 := by omega
    have S47 : Same H4 H7 := s5.trans (s6.trans s7)
    clear hd2 ld2 e6 n6 s5 s6 s7 nD e5 l7
    walk_at "xx"
    refine ix_int (lst_of (S47 _ _ e4)) (by omega) (by omega) fun x gx => ?_
    rw [show (0 : Int).toNat = 0 from rfl, hd0] at gx
    cases gx
    walk_at "xx"
    rename_i np H8 n8 s8 e8
    rw [show (4 : Int) + (k0 : Int) = ((4 + k0 : Nat) : Int) by omega, show (3 : Int) = ((3 : Nat) : Int) from rfl, cutMid _ (by omega) (by rw [List.length_map]; omega), ← List.map_drop, ← List.map_take, show 4 + k0 - 3 = k0 + 1 by omega] at e8
    obtain ⟨nd, hnd⟩ : ∃ nd, nd = (dr.drop 3).take (k0 + 1) := ⟨_, rfl⟩
    have lnd : nd.length = k0 + 1 := by rw [hnd, List.length_take, List.length_drop]; omega
    have hnd2 : ∀ x ∈ nd, 0 ≤ x ∧ x ≤ m := fun x hx => hdn x (List.mem_of_mem_take (hnd ▸ hx))
    rw [← hnd] at e8
    refine s_cut (fun σ H' => ∃ (n2 : Addr) (ne : List Int), σ = [some (.ref a), some (.ref d), some (.int m), some (.bl b), some (.ref dp), some (.ref wp), some (.ref n2), none, none, none, none, none, none, none, none, none] ∧ Same H8 H' ∧ H' n2 = some (.lst (ne.map V.int)) ∧ ne.length = k0 + 2 ∧ ∀ x ∈ ne, 0 ≤ x ∧ x ≤ m) ?_ (fun σ H9 p => ?_)
    · walk_at "xx"
      cases b with
      | true =>
        walk_at "xx"
        rename_i cp H9 n9 s9 e9
        rw [cutTo _ (by decide), ← List.map_take] at e9
        refine o_addL (s9 _ _ e8) e9 (by simp only [List.length_map, List.length_take]; exact lz (by omega)) fun n2 H10 n10 s10 e10 => ?_
        rw [← List.map_append] at e10
        walk_at "xx"
        refine ⟨n2, _, rfl, s9.trans s10, e10, ?_, fun x hx => ?_⟩
        · rw [List.length_append, List.length_take, lnd]
          show k0 + 1 + min 1 (k0 + 1) = _
          omega
        · rcases List.mem_append.mp hx with hx | hx
          · exact hnd2 x hx
          · exact hnd2 x (List.mem_of_mem_take hx)
      | false =>
        walk_at "xx"
        rename_i cp H9 n9 s9 e9
        refine o_addL e9 (s9 _ _ e8) (by simp only [List.length_map, List.length_cons, List.length_nil]; exact lz (by omega)) fun n2 H10 n10 s10 e10 => ?_
        have e10 : H10 n2 = some (.lst ((0 :: nd).map V.int)) := e10
        walk_at "xx"
        refine ⟨n2, _, rfl, s9.trans s10, e10, by rw [List.length_cons, lnd], fun x hx => ?_⟩
        rcases List.mem_cons.mp hx with rfl | hx
        · omega
        · exact hnd2 x hx
    obtain ⟨n2, ne, rfl, s9, e9, lne, hne⟩ := p
    have S9 : Same H H9 := S4.trans (S47.trans (s8.trans s9))
    have ew := (s8.trans s9) _ _ e7
    have ed := (S47.trans (s8.trans s9)) _ _ e4
    clear S4 S47 s8 s9 e7 e8 e4 hnd hnd2 lnd hdn n8 nW nd np
    walk_at "xx"
    refine b_lenL (lst_of e9) ?_
    rw [List.length_map, lne]
    walk_at "xx"
    rw [show ((k0 + 2 : Nat) : Int) - 1 = ((k0 + 1 : Nat) : Int) by omega]
    obtain ⟨c, hc⟩ : ∃ c, c = k0 + 1 := ⟨_, rfl⟩
    have hc1 : 1 ≤ c ∧ c ≤ 8 := by omega
    have lne : ne.length = c + 1 := by omega
    rw [← hc]
    clear hc h00 h01 hd0
    walk_at "xx"
    refine c_tps (fun j => dfD (edO ne ws j)) (fun j H1 N hj s1 hN => ?_) (by omega) (fun _ => rfl) fun ep' H10 ue nE s10 e10 t10 => ?_
    · rw [Int.zero_add]
      walk_at "xx"
      refine ix_int (lst_of (s1 _ _ e9)) (by omega) (by omega) fun x gx => ?_
      walk_at "xx"
      refine ix_int (lst_of (s1 _ _ e9)) (by omega) (by omega) fun y gy => ?_
      walk_at "xx"
      refine ix_int (lst_of (s1 _ _ ew)) (by omega) (by omega) fun z gz => ?_
      walk_at "xx"
      rename_i tp H2 n2' s2 e2
      refine hN _ _ s2 (.tup e2 ?_)
      have : edO ne ws j = (x, y, z) := by
        unfold edO
        rw [Int.toNat_natCast] at gx gz
        rw [show ((j : Int) + 1).toNat = j + 1 by omega] at gy
        rw [List.getD_eq_getElem?_getD, List.getD_eq_getElem?_getD, List.getD_eq_getElem?_getD, gx, gy, gz]
        rfl
      rw [this]
      walk_at "tp"
    rw [Int.toNat_natCast] at t10
    have t10 : TpAll H10 ue (((List.range c).map (edO ne ws)).map dfD) := by rw [List.map_map]; exact t10
    obtain ⟨es, hes⟩ : ∃ es, es = (List.range c).map (edO ne ws) := ⟨_, rfl⟩
    rw [← hes] at t10
    have le : es.length = c := by rw [hes, List.length_map, List.length_range]
    have hes2 : ∀ e ∈ es, InR m e ∧ Bd 40 e.2.2 := fun e he => by
      rw [hes] at he
      obtain ⟨k, hk, rfl⟩ := List.mem_map.mp he
      have hk := List.mem_range.mp hk
      have g : ∀ i, i < ne.length → 0 ≤ ne.getD i 0 ∧ ne.getD i 0 ≤ m := fun i hi => by
        rw [List.getD_eq_getElem?_getD, List.getElem?_eq_getElem hi]
        exact hne _ (List.getElem_mem hi)
      refine ⟨⟨(g k (by omega)).1, (g k (by omega)).2, (g _ (by omega)).1, (g _ (by omega)).2⟩, ?_⟩
      show Bd 40 (ws.getD k 0)
      rw [List.getD_eq_getElem?_getD, List.getElem?_eq_getElem (show k < ws.length by omega)]
      exact b7 _ (List.getElem_mem _)
    clear hes
    have S10 := S9.trans s10
    refine s_cut (fun σ H' => ∃ z9 z10 us' es', σ = [some (.ref a), some (.ref d), some (.int m), some (.bl b), some (.ref dp), some (.ref wp), some (.ref n2), some (.int c), some (.ref ep'), z9, z10, none, none, none, none, none] ∧ Same H9 H' ∧ H' ep' = some (.lst us') ∧ TpAll H' us' ((es' : List Df).map dfD) ∧ es'.length = c ∧ ∀ e ∈ es', InR m e ∧ Bd 43 e.2.2) ?_ (fun σ H11 p => ?_)
    · walk_at "xx"
      cases b with
      | false =>
        walk_at "xx"
        exact ⟨_, _, _, _, rfl, s10, e10, t10, le, fun e he => ⟨(hes2 e he).1, bd_mono (hes2 e he).2 (by decide)⟩⟩
      | true =>
        walk_at "xx"
        refine ix_int (lst_of (s10 _ _ ew)) (by omega) (by omega) fun w8 g8 => ?_
        walk_at "xx"
        rename_i tl H11 n11 s11 e11
        refine ix_int (lst_of ((s10.trans s11) _ _ ed)) (by omega) (by omega) fun x gx => ?_
        rw [show (1 : Int).toNat = 1 from rfl, hd1] at gx
        cases gx
        refine ix_int (xs := [-1, 0, 1, -2, w8, -1]) (lst_of e11) (by omega) (by simp only [List.length_cons, List.length_nil]; omega) fun t gt => ?_
        have ht : Bd 42 t := by
          have := List.mem_of_getElem? gt
          simp only [List.mem_cons, List.not_mem_nil, or_false] at this
          rcases this with rfl | rfl | rfl | rfl | rfl | rfl
          · exact bd_sml (by decide) (by decide) (by decide)
          · exact bd_sml (by decide) (by decide) (by decide)
          · exact bd_sml (by decide) (by decide) (by decide)
          · exact bd_sml (by decide) (by decide) (by decide)
          · exact bd_mono (b7 _ (List.mem_of_getElem? g8)) (by decide)
          · exact bd_sml (by decide) (by decide) (by decide)
        walk_at "xx"
        rename_i cp H12 n12 s12 e12
        rw [cutFrom _ (by decide)] at e12
        have t12 : TpAll H12 (ue.drop 1) ((es.drop 1).map dfD) := by
          rw [List.map_drop]
          exact tpDrop ((t10.tk s11.tk).tk s12.tk)
        have lue := t10.length
        rw [List.length_map, le] at lue
        refine c_acc (xs := ue.drop 1) (.inl ⟨rfl, lst_of e12⟩) (One fun j y _ => ∃ r : Int, y = .int r ∧ Bd 40 r) (fun _ _ _ _ _ h => h) (fun i acc H hi h => small1000' (by rw [h.1]; rw [List.length_drop] at hi; omega)) One.zero (fun j x H1 acc N M hx s1 o hN hM => ?_) (fun D H13 ys nD s13 e13 o => ?_)
        · obtain ⟨e, he, te⟩ := tpGet (t12.tk s1.tk) hx
          obtain ⟨p1, _, _, _, rfl, ep, t1, t2, t3⟩ := WQ.tp3 te
          cases t1
          cases t2
          cases t3
          walk_at "xx"
          refine ⟨rfl, ?_⟩
          walk_at "xx"
          exact hN _ _ (Same.refl _) (o.snoc (fun _ _ h => h) ⟨_, rfl, (hes2 _ (List.mem_of_mem_drop (List.mem_of_getElem? he))).2⟩)
        obtain ⟨rs, rfl, lr, hr40⟩ := One.intsP o fun _ _ _ h => h
        rw [List.length_drop] at lr
        walk_at "xx"
        refine b_sum (lst_of e13) ?_
        have hsum := bd_sum (xs := rs) (by omega) hr40
        generalize rs.sum = total at hsum
        have S13 := s11.trans (s12.trans s13)
        have e10' := S13 _ _ e10
        have t10' := t10.tk S13.tk
        obtain ⟨e0, er, rfl⟩ : ∃ e0 er, es = e0 :: er := by
          cases es with
          | nil =>
            simp only [List.length_nil] at le
            omega
          | cons a b => exact ⟨_, _, rfl⟩
        clear t10 t12 e12 o e10
        cases t10' with
        | cons te t10' =>
        obtain ⟨p1, _, _, _, rfl, ep, t1, t2, t3⟩ := WQ.tp3 te
        cases t1
        cases t2
        cases t3
        walk_at "xx"
        refine o_ixL (lst_of e10') (v := .ref p1) (atI_of (j := 0) rfl rfl) ?_
        walk_at "xx"
        refine o_ixL (lst_of e10') (v := .ref p1) (atI_of (j := 0) rfl rfl) ?_
        walk_at "xx"
        rename_i tp H14 n14 s14 e14
        refine st_L (s14 _ _ e10') (j := 0) (by rw [List.length_cons]; exact ixN_of (by decide) (by omega)) fun H15 c15 e15 => ?_
        have k15 : TK H13 H15 := s14.tk.trans (c15.tk (s14 _ _ e10'))
        walk_at "xx"
        refine ⟨_, _, _, (e0.1, e0.2.1, t - total) :: er, rfl, c15.same (s10.trans (S13.trans s14)) nE, e15, .cons (Tp.tk (c15.tk (s14 _ _ e10')) (.tup e14 (by walk_at "tp"))) (t10'.tk k15), le, fun e he => ?_⟩
        rcases List.mem_cons.mp he with rfl | he
        · exact ⟨(hes2 e0 List.mem_cons_self).1, bd_sub ht hsum⟩
        · have := hes2 e (List.mem_cons_of_mem _ he)
          exact ⟨this.1, bd_mono this.2 (by decide)⟩
    clear t10 e10 hes2 le
    obtain ⟨z9, z10, us', es', rfl, s11, e11, t11, le', hes'⟩ := p
    have S11 := S9.trans s11
    have lus := t11.length
    rw [List.length_map] at lus
    walk_at "xx"
    refine c_accR (One fun j y _ => y = .int ((ds.length : Int) + c - 1 - j)) (fun _ _ _ _ _ h => h) (fun i acc H hi h => small1000' (by rw [h.1]; omega)) One.zero (fun j H2 acc N M hj s2 o hN hM => ?_) (fun qp H12 ys nQ s12 e12 o => ?_)
    · rw [Int.zero_add]
      walk_at "xx"
      refine ⟨rfl, ?_⟩
      walk_at "xx"
      refine b_lenL (lst_of (s2 _ _ (S11 _ _ hD))) ?_
      rw [lu]
      walk_at "xx"
      exact hN _ _ (Same.refl _) (o.snoc (fun _ _ h => h) rfl)
    have ey := o.eqR fun j y _ h => h
    obtain ⟨nu, hnu⟩ : ∃ nu : List Int, nu = (List.range c).map fun (j : Nat) => (ds.length : Int) + c - 1 - (j : Int) := ⟨_, rfl⟩
    have ey : ys = nu.map V.int := by
      rw [ey, hnu, List.map_map]
      rfl
    rw [ey] at e12
    clear o ey
    have lnu : nu.length = c := by rw [hnu, List.length_map, List.length_range]
    have bnu : ∀ n ∈ nu, Bd 10 n := fun n hn => by
      rw [hnu] at hn
      obtain ⟨k, hk, rfl⟩ := List.mem_map.mp hn
      have hk := List.mem_range.mp hk
      rw [Bd.iff]
      omega
    clear hnu
    walk_at "xx"
    refine s_cut (fun σ H' => ∃ z12, ∃ (q2 : Addr) (nu2 : List Int), σ = [some (.ref a), some (.ref d), some (.int m), some (.bl b), some (.ref dp), some (.ref wp), some (.ref n2), some (.int c), some (.ref ep'), z9, z10, some (.ref q2), z12, none, none, none] ∧ Same H12 H' ∧ H' q2 = some (.lst (nu2.map V.int)) ∧ nu2.length ≤ 8 ∧ ∀ n ∈ nu2, Bd 10 n) ?_ (fun σ H13 p => ?_)
    · walk_at "xx"
      cases b with
      | false =>
        walk_at "xx"
        exact ⟨_, _, nu, rfl, Same.refl _, e12, by omega, bnu⟩
      | true =>
        walk_at "xx"
        refine ix_int (lst_of ((s12 _ _ (s11 _ _ ed)))) (by omega) (by omega) fun x gx => ?_
        rw [show (2 : Int).toNat = 2 from rfl, hd2] at gx
        cases gx
        have at0 := Int.emod_nonneg d2 (show (c : Int) ≠ 0 by omega)
        have at1 := Int.emod_lt_of_pos d2 (show (0 : Int) < c by omega)
        walk_at "xx"
        rename_i cp H13 n13 s13 e13 cq H14 n14 s14 e14
        generalize d2 % (c : Int) = r at at0 at1 e13 e14 ⊢
        rw [cutFrom _ at0] at e13
        rw [cutTo _ at0] at e14
        refine o_addL (s14 _ _ e13) e14 (by simp only [List.length_drop, List.length_take, List.length_map]; exact lz (by omega)) fun rp H15 n15 s15 e15 => ?_
        rw [← List.map_drop, ← List.map_take, ← List.map_append] at e15
        walk_at "xx"
        refine ⟨_, rp, _, rfl, s13.trans (s14.trans s15), e15, by simp only [List.length_append, List.length_drop, List.length_take]; omega, fun n hn => ?_⟩
        rcases List.mem_append.mp hn with hn | hn
        · exact bnu n (List.mem_of_mem_drop hn)
        · exact bnu n (List.mem_of_mem_take hn)
    obtain ⟨z12, q2, nu2, rfl, s13, e13, l13, b13⟩ := p
    have s12 := s12.trans s13
    have S13 := S11.trans s12
    have e11' := s12 _ _ e11
    have t11' := t11.tk s12.tk
    walk_at "xx"
    refine e_revL ?_
    walk_at "xx"
    refine k_rev e11' fun vp H14 n14 s14 e14 => ?_
    refine o_addL (s14 _ _ (S13 _ _ hD)) e14 (by rw [List.length_reverse]; exact lz (by omega)) fun wp2 H15 n15 s15 e15 => ?_
    have S15 := s14.trans s15
    walk_at "xx"
    rename_i tp H16 n16 s16 e16
    have S16 := S15.trans s16
    refine q tp wp2 q2 H16 _ (ds ++ es'.reverse) nu2 (S13.trans S16) e16 (s16 _ _ e15) ?_ (S16 _ _ e13) ⟨by rw [List.length_append, List.length_reverse]; omega, by omega, fun d hd => ?_, b13⟩
    · rw [List.map_append, List.map_reverse]
      exact tpApp (tD.tk (S13.trans S16).tk) (tpRev (t11'.tk S16.tk))
    · rcases List.mem_append.mp hd with hd | hd
      · exact hin d hd
      · exact hes' d (List.mem_reverse.mp hd)
end
end K14
namespace K14
open PySem PySem.Spec PyProof.Rows L2 Wy WN WQ WS WC WE WB

-- WIDE
theorem bd_lv {vals : List Int} {n : Int} (h : ∀ v ∈ vals, Bd 40 v) : Bd 40 (lv vals n) := by
  unfold lv
  rw [List.getD_eq_getElem?_getD]
  cases e : (0 :: vals)[n.toNat]? with
  | none => exact bd_sml (i := 0) (by decide) (by decide) (by decide)
  | some x =>
    rcases List.mem_cons.mp (List.mem_of_getElem? e) with rfl | hx
    · exact bd_sml (i := 0) (by decide) (by decide) (by decide)
    · exact h x hx
theorem bd_up {c l r x : Int} (h1 : Bd 43 c) (h2 : Bd 40 l) (h3 : Bd 40 r) (h4 : 0 ≤ x) (h5 : x < 4) : Bd 44 (max c (l - r) + x / 2) := by
  rw [Bd.iff] at h1 h2 h3 ⊢
  omega
def spRaisedB (K : PySem.W.Frag) : Sp := fun vs H Q _ => ∃ (a b e : Addr) (zs : List Int) (us : List V) (ds : List Df) (vals : List Int), vs = [.ref a, .ref b, .ref e] ∧ SqL K H a (zs.map V.int) ∧ H b = some (.lst us) ∧ TpAll H us (ds.map dfD) ∧ H e = some (.lst (vals.map V.int)) ∧ (∀ d ∈ ds, InR vals.length d) ∧ ds.length ≤ 900 ∧ vals.length ≤ 900 ∧
  (∀ d ∈ ds, Bd 43 d.2.2) ∧ (∀ v ∈ vals, Bd 40 v) ∧
  ∀ p H' us' ds', Same H H' → H p = none → H' p = some (.lst us') → TpAll H' us' ((ds' : List Df).map dfD) → ds'.length = ds.length → (∀ d ∈ ds', InR vals.length d ∧ Bd 44 d.2.2) → Q (.ref p) H'
section
variable {P : Program} {w : World} {K : PySem.W.Frag} {mg : Str → Option Value} {base : Heap}
theorem k_law_raised (T : Tx K mg) : C8.Cal P w K mg base 3 "_law_raised" (spRaisedB K) [] := by
  refine cal_of (N := n_law_raised) T.d_law_raised sc_law_raised (fun _ _ F => F.bindsN fun _ _ _ _ _ _ us hl => match us, hl with | [_, _, _], _ => rfl) (fun vs H Q E h => ?_) (fun f cdv A outer s H vs Q E hr h => ?_)
  · obtain ⟨a, b, e, zs, us, ds, vals, rfl, _⟩ := h
    rfl
  · obtain ⟨a, b, e, zs, us, ds, vals, rfl, hA, hB, tB, hE, hin, hd, hv, hb43, hb40, q⟩ := h
    refine ⟨_, (pss_cons (ps_asg (C8.pe_c (k_law_draws T) hr (by first | decide | omega) (by rfl) (pa_cons (pv 0) (pa_cons pe_int (pa_cons (pe_lc (own := [("k", 3)]) (g := gName 3) (tt := tYes) (by rfl) sc_law_raised.nd (pi_range1 (by rfl) T.z_range (pa_cons (pe_op op_add3 (pe_callB (call_len2 : CallR _ _ (rLn K)) (by rfl) T.z_len (by decide +kernel) (pa_cons (pv 1) pa_nil)) pe_int) pa_nil)) (blkOk_by (own := [("k", 3)]) (N := n_law_raised) (sc := defScope s_law_raised) (by decide +kernel)) (fun _ _ _ _ _ => pg_name (i := 3) sc_law_raised.nd rfl (Or.inl rfl)) (fun _ _ _ _ _ => pts_nil) (fun _ _ _ _ _ => pe_int)) pa_nil)))) (pg_name (i := 4) sc_law_raised.nd rfl (Or.inl rfl))) (pss_cons (ps_asg (pe_op op_add3 (pe_lst (pa_cons pe_int pa_nil)) (pv 2)) (pg_name (i := 5) sc_law_raised.nd rfl (Or.inl rfl))) (pss_cons (ps_asg (pe_lst pa_nil) (pg_name (i := 6) sc_law_raised.nd rfl (Or.inl rfl))) (pss_cons (ps_for PassesOwn.never rfl (pi_range1 (by rfl) T.z_range (pa_cons (pe_callB (call_len2 : CallR _ _ (rLn K)) (by rfl) T.z_len (by decide +kernel) (pa_cons (pv 1) pa_nil)) pa_nil)) (pg_name (i := 3) sc_law_raised.nd rfl (Or.inl rfl)) (pss_cons (ps_asg (pe_ix (ix_seq : IxR _ (rIx K)) (pv 1) (pv 3) (fun _ _ => rfl)) (pg_tup (by rfl) (pgs_cons (pg_name (i := 7) sc_law_raised.nd rfl (Or.inl rfl)) (pgs_cons (pg_name (i := 8) sc_law_raised.nd rfl (Or.inl rfl)) (pgs_cons (pg_name (i := 9) sc_law_raised.nd rfl (Or.inl rfl)) pgs_nil))) : PG _ _ (gTup K _ _))) (pss_one (ps_expr (pe_bm PySem.F.plainAttrs_list PySem.F.slot_list_append PySem.F.type_list_append mt_append (pv 6) (pa_cons (pe_tup (pa_cons (pv 7) (pa_cons (pv 8) (pa_cons (pe_op op_add3 (pe_callC cc_max (by rfl) T.z_max (by decide +kernel) (pa_cons (pe_callTy call_int2 (by rfl) T.z_int (by decide +kernel) (pa_cons (pv 9) pa_nil)) (pa_cons (pe_callTy call_int2 (by rfl) T.z_int (by decide +kernel) (pa_cons (pe_op op_sub (pe_ix (ix_seq : IxR _ (rIx K)) (pv 5) (pv 7) (fun _ _ => rfl)) (pe_ix (ix_seq : IxR _ (rIx K)) (pv 5) (pv 8) (fun _ _ => rfl))) pa_nil)) pa_nil))) (pe_op op_fdivW (pe_ix (ix_seq : IxR _ (rIx K)) (pv 4) (pv 3) (fun _ _ => rfl)) pe_int)) pa_nil)))) pa_nil) : PE _ _ (tBM K _ _ _ _)))))) (pss_one (ps_ret (pv 6))))))), ?_⟩
    have lu := tB.length
    rw [List.length_map] at lu
    walk_at "xx"
    refine b_lenL (lst_of hB) ?_
    rw [lu]
    walk_at "xx"
    refine c_constI (c := 4) (fun _ _ _ h => ?_) (by omega) (fun _ => rfl) fun D H1 nD s1 e1 => ?_
    · walk_at "xx"
      exact h
    walk_at "xx"
    refine ⟨a, D, zs, _, _, rfl, s1.seq hA, lst_of e1, ⟨by rw [List.length_replicate]; omega, fun s hs => by rw [(List.mem_replicate.mp hs).2]; decide⟩, fun dp H2 dr s2 n2 e2 hdr => ?_⟩
    have ld := hdr.len
    rw [List.length_replicate] at ld
    have S2 := s1.trans s2
    walk_at "xx"
    rename_i zp H3 n3 s3 e3
    refine o_addL (by walk_at "hp") (s3 _ _ (S2 _ _ hE)) (by rw [List.length_map]; exact lz (by show 1 + _ ≤ _; omega)) fun lp H4 n4 s4 e4 => ?_
    have e4 : H4 lp = some (.lst ((0 :: vals).map V.int)) := e4
    walk_at "xx"
    rename_i rp H5 n5 s5 e5
    have S5 : Same H H5 := S2.trans (s3.trans (s4.trans s5))
    have nR : H rp = none := (S2.trans (s3.trans s4)).free n5
    refine b_lenL (lst_of (S5 _ _ hB)) ?_
    rw [lu]
    walk_at "xx"
    refine f_range (fun i σ H' => ∃ z3 z7 z8 z9 us' ds', σ = [some (.ref a), some (.ref b), some (.ref e), z3, some (.ref dp), some (.ref lp), some (.ref rp), z7, z8, z9] ∧ Same H4 H' ∧ H' rp = some (.lst us') ∧ TpAll H' us' ((ds' : List Df).map dfD) ∧ ds'.length = i ∧ ∀ d ∈ ds', InR vals.length d ∧ Bd 44 d.2.2)
      ⟨_, _, _, _, _, [], rfl, s5, e5, .nil, rfl, fun _ h => by cases h⟩ (fun i σ H6 hi p => ?_) (fun σ H6 p => ?_)
    · obtain ⟨z3, z7, z8, z9, us', ds', rfl, s6, e6, t6, l6, r6⟩ := p
      have hi : i < ds.length := by omega
      have lus := t6.length
      rw [List.length_map] at lus
      have S6 : Same H H6 := (S2.trans (s3.trans s4)).trans s6
      obtain ⟨u, gu, tu⟩ := tpAt (tB.tk S6.tk) (List.getElem?_eq_getElem hi)
      obtain ⟨p1, _, _, _, rfl, ep, t1, t2, t3⟩ := WQ.tp3 tu
      cases t1
      cases t2
      cases t3
      obtain ⟨i0, i1, i2, i3⟩ := hin _ (List.getElem_mem hi)
      have gd : dr[i]? = some dr[i] := List.getElem?_eq_getElem (by omega)
      rw [Int.zero_add]
      walk_at "xx"
      refine o_ixL (lst_of (S6 _ _ hB)) (atI_nat gu) ?_
      walk_at "xx"
      refine m_ty (lst_of e6) ?_
      walk_at "xx"
      refine ix_lv (lst_of (s6 _ _ e4)) i0 (by omega) ?_
      walk_at "xx"
      refine ix_lv (lst_of (s6 _ _ e4)) i2 (by omega) ?_
      walk_at "xx"
      refine ix_int (lst_of (((s3.trans s4).trans s6) _ _ e2)) (by omega) (by omega) fun x gx => ?_
      have gx4 := hdr.get gx
      walk_at "xx"
      rename_i tp H7 n7 s7 e7
      refine m_app (s7 _ _ e6) (small1000 (by omega)) fun H8 c8 e8 => ?_
      have k8 : TK H6 H8 := s7.tk.trans (c8.tk (s7 _ _ e6))
      walk_at "xx"
      refine ⟨_, _, _, _, us' ++ [.ref tp], ds' ++ [(ds[i].1, ds[i].2.1, max ds[i].2.2 (lv vals ds[i].1 - lv vals ds[i].2.1) + x / 2)], rfl, c8.same (s6.trans s7) n5, e8, ?_, by rw [List.length_append, l6]; rfl, fun d hd => ?_⟩
      · rw [List.map_append]
        exact tpSnoc (t6.tk k8) (Tp.tk (c8.tk (s7 _ _ e6)) (.tup e7 (by walk_at "tp")))
      · rcases List.mem_append.mp hd with hd | hd
        · exact r6 d hd
        · rw [List.mem_singleton.mp hd]
          obtain ⟨s, gs, x0, x1⟩ := gx4
          rw [List.getElem?_replicate] at gs
          split at gs
          · cases gs
            exact ⟨⟨i0, i1, i2, i3⟩, bd_up (hb43 _ (List.getElem_mem hi)) (bd_lv hb40) (bd_lv hb40) x0 x1⟩
          · cases gs
    · obtain ⟨z3, z7, z8, z9, us', ds', rfl, s6, e6, t6, l6, r6⟩ := p
      walk_at "xx"
      exact q _ _ _ ds' ((S2.trans (s3.trans s4)).trans s6) nR e6 t6 (by omega) r6
end
end K14
namespace K14
open PySem PySem.Spec PyProof.Rows L2 Wy WN WQ WS WC WE WB

-- WIDE
def spDrawn (K : PySem.W.Frag) : Sp := fun vs H Q _ => ∃ (a sh d : Addr) (zs : List Int) (s0 : Int) (sr : List Int) (us : List V) (ds : List Df) (m : Nat), vs = [.ref a, .ref sh, .ref d, .int m] ∧ SqL K H a (zs.map V.int) ∧ H sh = some (.lst ((s0 :: sr).map V.int)) ∧ H d = some (.lst us) ∧ TpAll H us (ds.map dfD) ∧ ds.length ≤ 40 ∧ m ≤ 1000 ∧ (∀ d ∈ ds, InR m d ∧ Bd 43 d.2.2) ∧
  ∀ t p n H' us' ds' ns, Same H H' → H' t = some (.tup [.ref p, .ref n]) → H' p = some (.lst us') → TpAll H' us' ((ds' : List Df).map dfD) → H' n = some (.lst ((ns : List Int).map V.int)) → Dn m ds' ns → Q (.ref t) H'
def spSameI : Sp := fun vs H Q _ => ∃ x : Option Int, vs = [oI x, oI x] ∧ Q (.bl true) H
def spTriple (K : PySem.W.Frag) : Sp := fun vs H Q _ => (vs = [.non, .non] ∧ Q (.bl true) H) ∨ ∃ (a b : Addr) (t : Df), vs = [.ref a, .ref b] ∧ H a = some (.tup [.int t.1, .int t.2.1, .int t.2.2]) ∧ H b = some (.tup [.int t.1, .int t.2.1, .int t.2.2]) ∧ ∀ H', Same H H' → Q (.bl true) H'
section
variable {P : Program} {w : World} {K : PySem.W.Frag} {mg : Str → Option Value} {base : Heap}
theorem k_law_same (T : Tx K mg) : C8.Cal P w K mg base 2 "_law_same" spSameI [] := by
  refine cal_of (N := n_law_same) T.d_law_same sc_law_same (fun _ _ F => F.bindsN fun _ _ _ _ _ _ us hl => match us, hl with | [_, _], _ => rfl) (fun vs H Q E h => ?_) (fun f cdv A outer s H vs Q E hr h => ?_)
  · obtain ⟨x, rfl, _⟩ := h
    rfl
  · obtain ⟨x, rfl, q⟩ := h
    cases x with
    | none =>
      rw [show oI none = V.non from rfl]
      refine ⟨_, (pss_cons (ps_if (pt_cmpR op_isN2 (pv 1) pe_non (nomark _)) (pss_one (ps_ret (pe_cmpR op_isN2 (pv 0) pe_non (nomark _)))) pss_nil) (pss_one (ps_ret (pe_and (C8.pe_c (k_law_is_integer T) hr (by first | decide | omega) (by rfl) (pa_cons (pv 0) pa_nil)) (pe_one (pe_cmpR (op_eq2 hr.units : OpR _ _ (rEq2 K)) (pv 0) (pv 1) (nomark _))))))), ?_⟩
      walk_at "xx"
      exact q
    | some i =>
      rw [show oI (some i) = V.int i from rfl]
      refine ⟨_, (pss_cons (ps_if (pt_cmpR op_isN2 (pv 1) pe_non (nomark _)) (pss_one (ps_ret (pe_cmpR op_isN2 (pv 0) pe_non (nomark _)))) pss_nil) (pss_one (ps_ret (pe_and (C8.pe_c (k_law_is_integer T) hr (by first | decide | omega) (by rfl) (pa_cons (pv 0) pa_nil)) (pe_one (pe_cmpR (op_eq2 hr.units : OpR _ _ (rEq2 K)) (pv 0) (pv 1) (nomark _))))))), ?_⟩
      walk_at "xx"
      refine ⟨i, rfl, ?_⟩
      walk_at "xx"
      simpa using q
theorem k_law_is_triple (T : Tx K mg) : C8.Cal P w K mg base 3 "_law_is_triple" (spTriple K) [] := by
  refine cal_of (N := n_law_is_triple) T.d_law_is_triple sc_law_is_triple (fun _ _ F => F.bindsN fun _ _ _ _ _ _ us hl => match us, hl with | [_, _], _ => rfl) (fun vs H Q E h => ?_) (fun f cdv A outer s H vs Q E hr h => ?_)
  · rcases h with ⟨rfl, _⟩ | ⟨a, b, t, rfl, _⟩ <;> rfl
  · rcases h with ⟨rfl, q⟩ | ⟨a, b, t, rfl, hA, hB, q⟩
    · refine ⟨_, (pss_cons (ps_if (pt_cmpR op_isN2 (pv 1) pe_non (nomark _)) (pss_one (ps_ret (pe_cmpR op_isN2 (pv 0) pe_non (nomark _)))) pss_nil) (pss_cons (ps_if (PW.pt (pw_or (pt_not (pt_tr (pe_callB (call_isi2 : CallR _ _ (rIsi2 K)) (by rfl) T.z_isinstance (by decide +kernel) (pa_cons (pv 0) (pa_cons (pe_bltn (v := .ty "tuple") (by rfl) T.z_tuple (by decide +kernel) rfl) pa_nil))) : PT _ _ (tTr K _))) (pw_or1 (pt_cmpR (op_ne2 hr.units : OpR _ _ (rNe2 K)) (pe_callB (call_len2 : CallR _ _ (rLn K)) (by rfl) T.z_len (by decide +kernel) (pa_cons (pv 0) pa_nil)) pe_int (nomark _))))) (pss_one (ps_ret pe_bl)) pss_nil) (pss_one (ps_ret (pe_callC cc_all (by rfl) T.z_all (by decide +kernel) (pa_cons (pe_lc (own := [("k", 2)]) (g := gName 2) (tt := tYes) (by rfl) sc_law_is_triple.nd (pi_range1 (by rfl) T.z_range (pa_cons pe_int pa_nil)) (blkOk_by (own := [("k", 2)]) (N := n_law_is_triple) (sc := defScope s_law_is_triple) (by decide +kernel)) (fun _ _ _ _ _ => pg_name (i := 2) sc_law_is_triple.nd rfl (Or.inl rfl)) (fun _ _ _ _ _ => pts_nil) (fun _ _ _ _ _ => (C8.pe_c (k_law_same T) hr (by first | decide | omega) (by rfl) (pa_cons (pe_ix (ix_seq : IxR _ (rIx K)) (pv 0) (pv 2) (fun _ _ => rfl)) (pa_cons (pe_ix (ix_seq : IxR _ (rIx K)) (pv 1) (pv 2) (fun _ _ => rfl)) pa_nil))))) pa_nil)))))), ?_⟩
      walk_at "xx"
      exact q
    · refine ⟨_, (pss_cons (ps_if (pt_cmpR op_isN2 (pv 1) pe_non (nomark _)) (pss_one (ps_ret (pe_cmpR op_isN2 (pv 0) pe_non (nomark _)))) pss_nil) (pss_cons (ps_if (PW.pt (pw_or (pt_not (pt_tr (pe_callB (call_isi2 : CallR _ _ (rIsi2 K)) (by rfl) T.z_isinstance (by decide +kernel) (pa_cons (pv 0) (pa_cons (pe_bltn (v := .ty "tuple") (by rfl) T.z_tuple (by decide +kernel) rfl) pa_nil))) : PT _ _ (tTr K _))) (pw_or1 (pt_cmpR (op_ne2 hr.units : OpR _ _ (rNe2 K)) (pe_callB (call_len2 : CallR _ _ (rLn K)) (by rfl) T.z_len (by decide +kernel) (pa_cons (pv 0) pa_nil)) pe_int (nomark _))))) (pss_one (ps_ret pe_bl)) pss_nil) (pss_one (ps_ret (pe_callC cc_all (by rfl) T.z_all (by decide +kernel) (pa_cons (pe_lc (own := [("k", 2)]) (g := gName 2) (tt := tYes) (by rfl) sc_law_is_triple.nd (pi_range1 (by rfl) T.z_range (pa_cons pe_int pa_nil)) (blkOk_by (own := [("k", 2)]) (N := n_law_is_triple) (sc := defScope s_law_is_triple) (by decide +kernel)) (fun _ _ _ _ _ => pg_name (i := 2) sc_law_is_triple.nd rfl (Or.inl rfl)) (fun _ _ _ _ _ => pts_nil) (fun _ _ _ _ _ => (C8.pe_c (k_law_same T) hr (by first | decide | omega) (by rfl) (pa_cons (pe_ix (ix_seq : IxR _ (rIx K)) (pv 0) (pv 2) (fun _ _ => rfl)) (pa_cons (pe_ix (ix_seq : IxR _ (rIx K)) (pv 1) (pv 2) (fun _ _ => rfl)) pa_nil))))) pa_nil)))))), ?_⟩
      walk_at "xx"
      have g : ∀ {H1 : Hp} {j : Nat} {N : VK} {p : Addr}, H1 p = some (.tup [.int t.1, .int t.2.1, .int t.2.2]) → j < 3 → N (.int (if j = 0 then t.1 else if j = 1 then t.2.1 else t.2.2)) H1 → rIx K (.ref p) (.int j) H1 N := fun {H1 j N p} e hj h => by
        match j, hj with
        | 0, _ => exact o_ixT (tup_of e) (atI_of (j := 0) rfl rfl) h
        | 1, _ => exact o_ixT (tup_of e) (atI_of (j := 1) rfl rfl) h
        | 2, _ => exact o_ixT (tup_of e) (atI_of (j := 2) rfl rfl) h
      refine c_accR (One fun _ y _ => y = .bl true) (fun _ _ _ _ _ h => h) (fun i acc H hi h => small1000' (by rw [h.1]; omega)) One.zero (fun j H1 acc N M hj s1 o hN hM => ?_) (fun D H1 ys nD s1 e1 o => ?_)
      · rw [Int.zero_add]
        walk_at "xx"
        refine ⟨rfl, ?_⟩
        walk_at "xx"
        refine g (s1 _ _ hA) hj ?_
        walk_at "xx"
        refine g (s1 _ _ hB) hj ?_
        walk_at "xx"
        refine ⟨some _, rfl, ?_⟩
        exact hN _ _ (Same.refl _) (o.snoc (fun _ _ h => h) rfl)
      · walk_at "xx"
        refine b_allT (lst_of e1) (fun j y e => o.2 j y e) ?_
        exact q _ s1
theorem k_law_drawn (T : Tx K mg) : C8.Cal P w K mg base 4 "_law_drawn" (spDrawn K) [] := by
  refine cal_of (N := n_law_drawn) T.d_law_drawn sc_law_drawn (fun _ _ F => F.bindsN fun _ _ _ _ _ _ us hl => match us, hl with | [_, _, _, _], _ => rfl) (fun vs H Q E h => ?_) (fun f cdv A outer s H vs Q E hr h => ?_)
  · obtain ⟨a, sh, d, zs, s0, sr, us, ds, m, rfl, _⟩ := h
    rfl
  · obtain ⟨a, sh, d, zs, s0, sr, us, ds, m, rfl, hA, hS, hD, tD, ld, lm, hin, q⟩ := h
    refine ⟨_, (pss_cons (ps_asg (C8.pe_c (k_law_draws T) hr (by first | decide | omega) (by rfl) (pa_cons (pv 0) (pa_cons pe_int (pa_cons (pe_lst (pa_cons pe_int (pa_cons pe_int (pa_cons pe_int (pa_cons pe_int (pa_cons pe_int (pa_cons pe_int (pa_cons pe_int pa_nil)))))))) pa_nil)))) (pg_name (i := 4) sc_law_drawn.nd rfl (Or.inl rfl))) (pss_cons (ps_if (PW.pt (pw_or (pt_cmpR (op_eq2 hr.units : OpR _ _ (rEq2 K)) (pe_ix (ix_seq : IxR _ (rIx K)) (pv 1) pe_int (fun _ _ => rfl)) pe_int (nomark _)) (pw_or1 (pt_cmpR (op_eq2 hr.units : OpR _ _ (rEq2 K)) (pe_callB (call_len2 : CallR _ _ (rLn K)) (by rfl) T.z_len (by decide +kernel) (pa_cons (pv 2) pa_nil)) pe_int (nomark _))))) (pss_one (ps_ret (pe_tup (pa_cons (pv 2) (pa_cons (pe_lc (own := [("draw", 7)]) (g := gName 7) (tt := tYes) (by rfl) sc_law_drawn.nd (pi_list (pe_slice (sl_2 : SlR _ (rSl2 K)) (pv 4) (po_some pe_int) (po_some (pe_op op_add3 pe_int (pe_op op_mod (pe_callTy call_int2 (by rfl) T.z_int (by decide +kernel) (pa_cons (pe_ix (ix_seq : IxR _ (rIx K)) (pv 4) pe_int (fun _ _ => rfl)) pa_nil)) pe_int)))) : PI _ _ _ (iList K _)) (blkOk_by (own := [("draw", 7)]) (N := n_law_drawn) (sc := defScope s_law_drawn) (by decide +kernel)) (fun _ _ _ _ _ => pg_name (i := 7) sc_law_drawn.nd rfl (Or.inl rfl)) (fun _ _ _ _ _ => pts_nil) (fun _ _ _ _ _ => (pe_op op_sub (pe_op op_mod (pe_callTy call_int2 (by rfl) T.z_int (by decide +kernel) (pa_cons (pv 7) pa_nil)) (pe_op op_add3 (pe_callB (call_len2 : CallR _ _ (rLn K)) (by rfl) T.z_len (by decide +kernel) (pa_cons (pv 2) pa_nil)) pe_int)) pe_int))) pa_nil))))) pss_nil) (pss_cons (ps_if (pt_cmpR op_gt (pe_ix (ix_seq : IxR _ (rIx K)) (pv 1) pe_int (fun _ _ => rfl)) pe_int (nomark _)) (pss_one (ps_ret (C8.pe_c (k_law_path T) hr (by first | decide | omega) (by rfl) (pa_cons (pv 0) (pa_cons (pv 2) (pa_cons (pv 3) (pa_cons (pe_cmpR op_lt (pe_ix (ix_seq : IxR _ (rIx K)) (pv 1) pe_int (fun _ _ => rfl)) pe_int (nomark _)) pa_nil))))))) pss_nil) (pss_cons (ps_asg (C8.pe_c (k_law_going T) hr (by first | decide | omega) (by rfl) (pa_cons (pv 0) (pa_cons (pv 2) (pa_cons (pv 3) pa_nil)))) (pg_name (i := 5) sc_law_drawn.nd rfl (Or.inl rfl))) (pss_cons (ps_asg (pe_op op_mod (pe_callTy call_int2 (by rfl) T.z_int (by decide +kernel) (pa_cons (pe_ix (ix_seq : IxR _ (rIx K)) (pv 4) pe_int (fun _ _ => rfl)) pa_nil)) (pe_callB (call_len2 : CallR _ _ (rLn K)) (by rfl) T.z_len (by decide +kernel) (pa_cons (pv 5) pa_nil))) (pg_name (i := 6) sc_law_drawn.nd rfl (Or.inl rfl))) (C8.pss_cut (ps_if (pt_cmpR (op_eq2 hr.units : OpR _ _ (rEq2 K)) (pe_ix (ix_seq : IxR _ (rIx K)) (pv 1) pe_int (fun _ _ => rfl)) pe_int (nomark _)) (pss_one (ps_asg (pe_op op_sub (pe_op op_mod (pe_callTy call_int2 (by rfl) T.z_int (by decide +kernel) (pa_cons (pe_ix (ix_seq : IxR _ (rIx K)) (pv 4) pe_int (fun _ _ => rfl)) pa_nil)) (pe_op op_add3 (pe_callB (call_len2 : CallR _ _ (rLn K)) (by rfl) T.z_len (by decide +kernel) (pa_cons (pv 2) pa_nil)) pe_int)) pe_int) (pg_sub (pv 5) (pv 6) set_list))) pss_nil) (C8.pss_cut (ps_if (pt_cmpR (op_eq2 hr.units : OpR _ _ (rEq2 K)) (pe_ix (ix_seq : IxR _ (rIx K)) (pv 1) pe_int (fun _ _ => rfl)) pe_int (nomark _)) (pss_one (ps_asg (pe_op op_add3 (pe_slice (sl_2 : SlR _ (rSl2 K)) (pv 5) po_none (po_some (pv 6))) (pe_slice (sl_2 : SlR _ (rSl2 K)) (pv 5) (po_some (pe_op op_add3 (pv 6) pe_int)) po_none)) (pg_name (i := 5) sc_law_drawn.nd rfl (Or.inl rfl)))) pss_nil) (pss_one (ps_ret (pe_tup (pa_cons (pv 2) (pa_cons (pv 5) pa_nil)))))))))))), ?_⟩
    have lu := tD.length
    rw [List.length_map] at lu
    walk_at "xx"
    rename_i lp H0 n0 s0' e0
    refine ⟨a, _, zs, [60, 12, 12, 12, 12, 12, 12], 5, rfl, by walk_at "sq", by walk_at "sq", szOk_of (by decide +kernel), fun p H1 dr s1 np e1 hd => ?_⟩
    have l7 := hd.len
    have l7 : dr.length = 7 := l7
    obtain ⟨d0, hd0, h00, h01⟩ := hd.at (i := 0) (s := 60) rfl
    obtain ⟨d1, hd1, h10, h11⟩ := hd.at (i := 1) (s := 12) rfl
    clear hd
    have s1 := s0'.trans s1
    clear s0' e0 n0
    have hS1 := s1 _ _ hS
    have hD1 := s1 _ _ hD
    have done : ∀ H2 t n ns, Same H H2 → H2 t = some (.tup [.ref d, .ref n]) → H2 n = some (.lst ((ns : List Int).map V.int)) → ns.length ≤ 100 → (∀ x ∈ ns, Bd 10 x) → Q (.ref t) H2 := fun H2 t n ns s2 e2 e3 h1 h2 => q t d n H2 us ds ns s2 e2 (s2 _ _ hD) (tD.tk s2.tk) e3 ⟨by omega, h1, hin, h2⟩
    have draw : ∀ {M N : Int}, 0 < N → N ≤ 1000 → Bd 10 (M % N - 2) ∧ Bd 10 (M % N - 1) := fun {M N} h1 h2 => by
      have := Int.emod_nonneg M (show N ≠ 0 by omega)
      have := Int.emod_lt_of_pos M h1
      exact ⟨bd_sml (by omega) (by omega) (by decide), bd_sml (by omega) (by omega) (by decide)⟩
    walk_at "xx"
    have ixs : ∀ {H2 : Hp} {N : VK}, Same H1 H2 → N (.int s0) H2 → rIx K (.ref sh) (.int 0) H2 N := fun {H2 N} s2 h => o_ixL (lst_of (s2 _ _ hS1)) (atI_of (j := 0) rfl rfl) h
    refine ixs (Same.refl _) ?_
    walk_at "xx"
    refine iteI (fun ea => ?_) (fun ea => ?_)
    · have ea := trivial
      walk_at "xx"
      refine ix_int (lst_of e1) (by omega) (by omega) fun x gx => ?_
      rw [show (0 : Int).toNat = 0 from rfl, hd0] at gx
      cases gx
      walk_at "xx"
      rename_i cp H2 n2 s2 e2
      have r0 := Int.emod_nonneg d0 (show (6 : Int) ≠ 0 by decide)
      have r1 := Int.emod_lt_of_pos d0 (show (0 : Int) < 6 by decide)
      generalize d0 % (6 : Int) = r at r0 r1 e2 ⊢
      obtain ⟨r, rfl⟩ : ∃ k : Nat, r = k := ⟨r.toNat, by omega⟩
      rw [show (1 : Int) + (r : Int) = ((1 + r : Nat) : Int) by omega, show (1 : Int) = ((1 : Nat) : Int) from rfl, cutMid _ (by omega) (by rw [List.length_map]; omega), ← List.map_drop, ← List.map_take, show 1 + r - 1 = r by omega] at e2
      refine c_acc (.inl ⟨rfl, lst_of e2⟩) (One fun j y _ => ∃ r : Int, y = .int r ∧ Bd 10 r) (fun _ _ _ _ _ h => h) (fun i acc H hi h => small1000' (by rw [h.1]; simp only [List.length_map, List.length_take, List.length_drop] at hi; omega)) One.zero (fun j x H3 acc N M hx s3 o hN hM => ?_) (fun D H3 ys nD s3 e3 o => ?_)
      · rw [List.getElem?_map] at hx
        obtain ⟨y, gy, rfl⟩ := Option.map_eq_some_iff.mp hx
        walk_at "xx"
        refine ⟨rfl, ?_⟩
        walk_at "xx"
        refine b_lenL (lst_of ((s2.trans s3) _ _ hD1)) ?_
        walk_at "xx"
        exact hN _ _ (Same.refl _) (o.snoc (fun _ _ h => h) ⟨_, rfl, (draw (by omega) (by omega)).1⟩)
      · obtain ⟨rs, rfl, lr, hr⟩ := One.intsP o fun _ _ _ h => h
        simp only [List.length_map, List.length_take, List.length_drop] at lr
        walk_at "xx"
        rename_i tp H4 n4 s4 e4
        exact done H4 tp D rs (s1.trans (s2.trans (s3.trans s4))) e4 (s4 _ _ e3) (by omega) hr
    walk_at "xx"
    refine b_lenL (lst_of hD1) ?_
    walk_at "xx"
    refine iteI (fun eb => ?_) (fun eb => ?_)
    · have eb := trivial
      walk_at "xx"
      refine ix_int (lst_of e1) (by omega) (by omega) fun x gx => ?_
      rw [show (0 : Int).toNat = 0 from rfl, hd0] at gx
      cases gx
      walk_at "xx"
      rename_i cp H2 n2 s2 e2
      have r0 := Int.emod_nonneg d0 (show (6 : Int) ≠ 0 by decide)
      have r1 := Int.emod_lt_of_pos d0 (show (0 : Int) < 6 by decide)
      generalize d0 % (6 : Int) = r at r0 r1 e2 ⊢
      obtain ⟨r, rfl⟩ : ∃ k : Nat, r = k := ⟨r.toNat, by omega⟩
      rw [show (1 : Int) + (r : Int) = ((1 + r : Nat) : Int) by omega, show (1 : Int) = ((1 : Nat) : Int) from rfl, cutMid _ (by omega) (by rw [List.length_map]; omega), ← List.map_drop, ← List.map_take, show 1 + r - 1 = r by omega] at e2
      refine c_acc (.inl ⟨rfl, lst_of e2⟩) (One fun j y _ => ∃ r : Int, y = .int r ∧ Bd 10 r) (fun _ _ _ _ _ h => h) (fun i acc H hi h => small1000' (by rw [h.1]; simp only [List.length_map, List.length_take, List.length_drop] at hi; omega)) One.zero (fun j x H3 acc N M hx s3 o hN hM => ?_) (fun D H3 ys nD s3 e3 o => ?_)
      · rw [List.getElem?_map] at hx
        obtain ⟨y, gy, rfl⟩ := Option.map_eq_some_iff.mp hx
        walk_at "xx"
        refine ⟨rfl, ?_⟩
        walk_at "xx"
        refine b_lenL (lst_of ((s2.trans s3) _ _ hD1)) ?_
        walk_at "xx"
        exact hN _ _ (Same.refl _) (o.snoc (fun _ _ h => h) ⟨_, rfl, (draw (by omega) (by omega)).1⟩)
      · obtain ⟨rs, rfl, lr, hr⟩ := One.intsP o fun _ _ _ h => h
        simp only [List.length_map, List.length_take, List.length_drop] at lr
        walk_at "xx"
        rename_i tp H4 n4 s4 e4
        exact done H4 tp D rs (s1.trans (s2.trans (s3.trans s4))) e4 (s4 _ _ e3) (by omega) hr
    walk_at "xx"
    refine ixs (Same.refl _) ?_
    walk_at "xx"
    refine iteD (fun ec => ?_) (fun ec => ?_)
    · walk_at "xx"
      refine ixs (Same.refl _) ?_
      walk_at "xx"
      refine ⟨a, d, zs, us, ds, m, decide (s0 < 7), rfl, s1.seq hA, hD1, tD.tk s1.tk, ld, lm, hin, fun t p n H' us' ds' ns s2 e2 f2 t2 g2 dn => ?_⟩
      exact q t p n H' us' ds' ns (s1.trans s2) e2 f2 t2 g2 dn
    · walk_at "xx"
      have ne : ds ≠ [] := fun e => eb (by rw [lu, e]; rfl)
      refine ⟨a, d, zs, us, ds, m, rfl, s1.seq hA, hD1, tD.tk s1.tk, ne, by omega, fun qp H2 ns s2 n2 e2 nne ln hn => ?_⟩
      have lp : 0 < ns.length := List.length_pos_iff.mpr nne
      walk_at "xx"
      refine ix_int (lst_of (s2 _ _ e1)) (by omega) (by omega) fun x gx => ?_
      rw [show (0 : Int).toNat = 0 from rfl, hd0] at gx
      cases gx
      walk_at "xx"
      refine b_lenL (lst_of e2) ?_
      rw [List.length_map]
      refine o_modG (by omega) fun r r0 r1 => ?_
      walk_at "xx"
      refine s_cut (fun σ H' => ∃ ns' : List Int, σ = [some (.ref a), some (.ref sh), some (.ref d), some (.int m), some (.ref p), some (.ref qp), some (.int r), none] ∧ Same H1 H' ∧ H' qp = some (.lst (ns'.map V.int)) ∧ ns'.length = ns.length ∧ ∀ x ∈ ns', Bd 10 x) ?_ (fun σ H3 p3 => ?_)
      · walk_at "xx"
        refine ixs s2 ?_
        walk_at "xx"
        refine iteI (fun ed => ?_) (fun ed => ?_)
        · walk_at "xx"
          refine ix_int (lst_of (s2 _ _ e1)) (by omega) (by omega) fun x gx => ?_
          walk_at "xx"
          refine b_lenL (lst_of (s2 _ _ hD1)) ?_
          walk_at "xx"
          refine st_L e2 (j := r.toNat) (by rw [List.length_map]; exact ixN_of r0 r1) fun H3 c3 e3 => ?_
          rw [← List.map_set] at e3
          refine ⟨_, rfl, c3.same s2 n2, e3, by rw [List.length_set], fun y hy => ?_⟩
          rcases List.mem_or_eq_of_mem_set hy with hy | rfl
          · have := hn y hy
            exact bd_sml (by omega) (by omega) (by decide)
          · exact (draw (by omega) (by omega)).2
        · walk_at "xx"
          exact ⟨ns, rfl, s2, e2, rfl, fun y hy => by have := hn y hy; exact bd_sml (by omega) (by omega) (by decide)⟩
      obtain ⟨ns', rfl, s3, e3, l3, b3⟩ := p3
      clear e2 hn nne
      refine s_cut (fun σ H' => ∃ (q2 : Addr) (nu : List Int), σ = [some (.ref a), some (.ref sh), some (.ref d), some (.int m), some (.ref p), some (.ref q2), some (.int r), none] ∧ Same H1 H' ∧ H' q2 = some (.lst (nu.map V.int)) ∧ nu.length ≤ 60 ∧ ∀ x ∈ nu, Bd 10 x) ?_ (fun σ H4 p4 => ?_)
      · walk_at "xx"
        refine ixs s3 ?_
        walk_at "xx"
        refine iteI (fun ed => ?_) (fun ed => ?_)
        · walk_at "xx"
          rename_i cp H4 n4 s4 e4 cq H5 n5 s5 e5
          rw [cutTo _ r0] at e4
          rw [cutFrom _ (by omega)] at e5
          refine o_addL (s5 _ _ e4) e5 (by simp only [List.length_drop, List.length_take, List.length_map]; exact lz (by omega)) fun rp H6 n6 s6 e6 => ?_
          rw [← List.map_drop, ← List.map_take, ← List.map_append] at e6
          walk_at "xx"
          refine ⟨rp, _, rfl, s3.trans (s4.trans (s5.trans s6)), e6, by simp only [List.length_append, List.length_drop, List.length_take]; omega, fun y hy => ?_⟩
          rcases List.mem_append.mp hy with hy | hy
          · exact b3 y (List.mem_of_mem_take hy)
          · exact b3 y (List.mem_of_mem_drop hy)
        · walk_at "xx"
          exact ⟨qp, ns', rfl, s3, e3, by omega, b3⟩
      obtain ⟨q2, nu, rfl, s4, e4, l4, b4⟩ := p4
      walk_at "xx"
      rename_i tp H5 n5 s5 e5
      exact done H5 tp q2 nu (s1.trans (s4.trans s5)) e5 (s5 _ _ e4) (by omega) b4
end
end K14
namespace K14
open PySem PySem.Spec PyProof.Rows L2 Wy WN WQ WS WC WE WB

-- WIDE
-- CUTIF law := shape[7] == 0
-- CUTIF law := shape[5] > 0
-- CUTIF law := shape[5] == 2 and len(differences) > 0
-- CUTIF law := shape[3] == 1
-- CUTIF law := shape[4] == 1
-- CUTIF law := due is not None and due[0] == 0 and (due[1] == unknown)
def seqD (b : Bool) (xs : List PyData) : PyData := if b = true then .tuple xs else .list xs
def SqH (H : Hp) (b : Bool) (p : Addr) (xs : List V) : Prop := H p = some (if b = true then .tup xs else .lst xs)
theorem SqH.sq {K : PySem.W.Frag} {H : Hp} {b : Bool} {p : Addr} {xs : List V} (h : SqH H b p xs) : Sq K H p xs := by
  cases b with
  | true => exact .inr (tup_of h)
  | false => exact .inl (lst_of h)
theorem SqH.dp {K : PySem.W.Frag} {H : Hp} {b : Bool} {p : Addr} {xs : List V} {ds : List PyData} (h : SqH H b p xs) (t : DpAll K H xs ds) : Dp K H (.ref p) (seqD b ds) := by
  cases b with
  | true => exact .tup (tup_of h) t
  | false => exact .lst (lst_of h) t
theorem SqH.same {H H2 : Hp} {b : Bool} {p : Addr} {xs : List V} (h : SqH H b p xs) (s : Same H H2) : SqH H2 b p xs := s _ _ h
theorem dp_ints {K : PySem.W.Frag} {H : Hp} : ∀ {ns : List Int}, DpAll K H (ns.map V.int) (ns.map PyData.int)
  | [] => .nil
  | n :: r => .cons (.int n) dp_ints
theorem rp_seq {k n : Nat} {b : Bool} {ds : List PyData} (h : ∀ x ∈ ds, Rp k n x) : Rp (k + 1) (ds.length * (n + 1)) (seqD b ds) := by
  cases b with
  | true => exact rp_tup h
  | false => exact rp_lst h
def giv (b1 b2 : Bool) (ds : List Df) (ns vals : List Int) : PyData := .list [.list [seqD b1 (ds.map dfD), seqD b2 (ns.map PyData.int)], .list (vals.map PyData.int)]
theorem rp_giv {b1 b2 : Bool} {ds : List Df} {ns vals : List Int} {m : Nat} (ld : ds.length ≤ 50) (ln : ns.length ≤ 100) (lv : vals.length ≤ 10) (lm : m ≤ 10) (hd : ∀ d ∈ ds, InR m d ∧ Bd 44 d.2.2) (hn : ∀ n ∈ ns, Bd 10 n) (hv : ∀ v ∈ vals, Bd 40 v) : Rp 4 120806 (giv b1 b2 ds ns vals) := by
  have i1 : Rp 2 30200 (seqD b1 (ds.map dfD)) := (rp_seq (n := 603) (k := 1) fun x hx => by
    obtain ⟨d, h, rfl⟩ := List.mem_map.mp hx
    obtain ⟨⟨r1, r2, r3, r4⟩, h2⟩ := hd d h
    exact rp_df ⟨bd_sml (by omega) (by omega) (by decide), bd_sml (by omega) (by omega) (by decide), bd_mono h2 (by decide)⟩).mono (Nat.le_refl _) (by rw [List.length_map]; omega)
  have i2 : Rp 2 30200 (seqD b2 (ns.map PyData.int)) := (rp_seq (n := 200) (k := 0) fun x hx => by
    obtain ⟨n, h, rfl⟩ := List.mem_map.mp hx
    exact rp_int (bd_mono (hn n h) (by decide))).mono (by decide) (by rw [List.length_map]; omega)
  have i3 : Rp 3 60402 (.list [seqD b1 (ds.map dfD), seqD b2 (ns.map PyData.int)]) := (rp_lst (ds := [seqD b1 (ds.map dfD), seqD b2 (ns.map PyData.int)]) (n := 30200) (k := 2) fun x hx => by
    simp only [List.mem_cons, List.not_mem_nil, or_false] at hx
    rcases hx with rfl | rfl
    · exact i1
    · exact i2).mono (Nat.le_refl _) (by simp only [List.length_cons, List.length_nil]; omega)
  have i4 : Rp 3 60402 (.list (vals.map PyData.int)) := (rp_lst (n := 200) (k := 0) fun x hx => by
    obtain ⟨n, h, rfl⟩ := List.mem_map.mp hx
    exact rp_int (bd_mono (hv n h) (by decide))).mono (by decide) (by rw [List.length_map]; omega)
  exact (rp_lst (ds := [_, _]) (n := 60402) (k := 3) fun x hx => by
    simp only [List.mem_cons, List.not_mem_nil, or_false] at hx
    rcases hx with rfl | rfl
    · exact i3
    · exact i4).mono (Nat.le_refl _) (by simp only [List.length_cons, List.length_nil]; omega)
theorem ne_df {H : Hp} {a b : Addr} {us : List V} {ds : List Df} {xs : List Int} (h1 : H a = some (.lst us)) (t : TpAll H us (ds.map dfD)) (ne : ds ≠ []) (h2 : H b = some (.lst (xs.map V.int))) : b ≠ a := by
  cases ds with
  | nil => exact absurd rfl ne
  | cons d r =>
    cases t with
    | cons td _ =>
      obtain ⟨p1, _, _, _, rfl, _⟩ := WQ.tp3 td
      exact ne_ints h1 h2
theorem tells_ok {b : Bool} {H : Hp} {Q : VK} {E : XK} (h : Q (.bl true) H) : spTells [.bl b, .bl b] H Q E := ⟨b, b, rfl, by rw [decide_eq_true rfl]; exact h⟩
theorem bd_tight {vals : List Int} {u v : Int} (h : ∀ x ∈ vals, Bd 40 x) : Bd 44 (lv vals u - lv vals v - 1) := by
  have h1 := bd_lv (n := u) h
  have h2 := bd_lv (n := v) h
  rw [Bd.iff] at h1 h2 ⊢
  omega
section
variable {P : Program} {w : World} {K : PySem.W.Frag} {mg : Str → Option Value} {base : Heap}
theorem ok_law (T : Tx K mg) {f : Addr} {fd : FuncData} (F : FunD K "law" "law" (defArgs s_law) (defBody s_law) (defScope s_law) [] [] f fd) : WG.FnG P w K mg base 6 f fd ["script"] (spLaw K) := by
  refine WG.fnG (N := n_law) fd F sc_law (fun vs H Q E h => ?_) (fun f cdv A outer s H vs Q E hr hq h => ?_)
  · obtain ⟨a, ns, rfl, _⟩ := h
    rfl
  · obtain ⟨a0, zs, rfl, hS, hl, q⟩ := h
    refine ⟨_, (pss_cons (ps_asg (C8.pe_c (k_law_draws T) hr (by first | decide | omega) (by rfl) (pa_cons (pv 0) (pa_cons pe_int (pa_cons (pe_lst (pa_cons pe_int (pa_cons pe_int (pa_cons pe_int (pa_cons pe_int (pa_cons pe_int (pa_cons pe_int (pa_cons pe_int (pa_cons pe_int pa_nil))))))))) pa_nil)))) (pg_name (i := 1) sc_law.nd rfl (Or.inl rfl))) (pss_cons (ps_asg (pe_op op_add3 pe_int (pe_ix (ix_seq : IxR _ (rIx K)) (pv 1) pe_int (fun _ _ => rfl))) (pg_name (i := 2) sc_law.nd rfl (Or.inl rfl))) (pss_cons (ps_asg (pe_ix (ix_seq : IxR _ (rIx K)) (pv 1) pe_int (fun _ _ => rfl)) (pg_name (i := 3) sc_law.nd rfl (Or.inl rfl))) (C8.pss_cut (ps_if (pt_cmpR (op_eq2 hr.units : OpR _ _ (rEq2 K)) (pe_ix (ix_seq : IxR _ (rIx K)) (pv 1) pe_int (fun _ _ => rfl)) pe_int (nomark _)) (pss_one (ps_asg (pe_op op_add3 pe_int (pe_op op_mul2 pe_int (pe_ix (ix_seq : IxR _ (rIx K)) (pv 1) pe_int (fun _ _ => rfl)))) (pg_name (i := 3) sc_law.nd rfl (Or.inl rfl)))) pss_nil) (pss_cons (ps_asg (C8.pe_c (k_law_differences T) hr (by first | decide | omega) (by rfl) (pa_cons (pv 0) (pa_cons pe_int (pa_cons (pv 3) (pa_cons (pv 2) pa_nil))))) (pg_name (i := 4) sc_law.nd rfl (Or.inl rfl))) (pss_cons (ps_asg (C8.pe_c (k_law_drawn T) hr (by first | decide | omega) (by rfl) (pa_cons (pv 0) (pa_cons (pv 1) (pa_cons (pv 4) (pa_cons (pv 2) pa_nil))))) (pg_tup (by rfl) (pgs_cons (pg_name (i := 4) sc_law.nd rfl (Or.inl rfl)) (pgs_cons (pg_name (i := 5) sc_law.nd rfl (Or.inl rfl)) pgs_nil)) : PG _ _ (gTup K _ _))) (pss_cons (ps_setLc (i := 6) (own := [("draw", 17)]) (g := gName 17) (tt := tYes) (by rfl) sc_law.nd rfl rfl (sw_true rfl rfl rfl (by decide +kernel)) (pi_list (C8.pe_c (k_law_draws T) hr (by first | decide | omega) (by rfl) (pa_cons (pv 0) (pa_cons pe_int (pa_cons (pe_lc (own := [("k", 18)]) (g := gName 18) (tt := tYes) (by rfl) sc_law.nd (pi_range1 (by rfl) T.z_range (pa_cons (pv 2) pa_nil)) (blkOk_by (own := [("k", 18)]) (N := n_law) (sc := defScope s_law) (by decide +kernel)) (fun _ _ _ _ _ => pg_name (i := 18) sc_law.nd rfl (Or.inl rfl)) (fun _ _ _ _ _ => pts_nil) (fun _ _ _ _ _ => (pe_op op_pow pe_int pe_int))) pa_nil)))) : PI _ _ _ (iList K _)) (blkOk_by (own := [("draw", 17)]) (N := n_law) (sc := defScope s_law) (by decide +kernel)) (fun _ _ _ _ _ => pg_name (i := 17) sc_law.nd rfl (Or.inl rfl)) (fun _ _ _ _ _ => pts_nil) (fun _ _ _ _ _ => (C8.pe_c (k_law_weight T) hr (by first | decide | omega) (by rfl) (pa_cons (pv 17) pa_nil)))) (C8.pss_cut (ps_if (pt_cmpR op_gt (pe_ix (ix_seq : IxR _ (rIx K)) (pv 1) pe_int (fun _ _ => rfl)) pe_int (nomark _)) (pss_one (ps_asg (C8.pe_c (k_law_raised T) hr (by first | decide | omega) (by rfl) (pa_cons (pv 0) (pa_cons (pv 4) (pa_cons (pv 6) pa_nil)))) (pg_name (i := 4) sc_law.nd rfl (Or.inl rfl)))) pss_nil) (C8.pss_cut (ps_if (PW.pt (pw_and (pt_cmpR (op_eq2 hr.units : OpR _ _ (rEq2 K)) (pe_ix (ix_seq : IxR _ (rIx K)) (pv 1) pe_int (fun _ _ => rfl)) pe_int (nomark _)) (pw_and1 (pt_cmpR op_gt (pe_callB (call_len2 : CallR _ _ (rLn K)) (by rfl) T.z_len (by decide +kernel) (pa_cons (pv 4) pa_nil)) pe_int (nomark _))))) (pss_cons (ps_asg (pe_op op_mod (pe_callTy call_int2 (by rfl) T.z_int (by decide +kernel) (pa_cons (pe_ix (ix_seq : IxR _ (rIx K)) (pv 1) pe_int (fun _ _ => rfl)) pa_nil)) (pe_callB (call_len2 : CallR _ _ (rLn K)) (by rfl) T.z_len (by decide +kernel) (pa_cons (pv 4) pa_nil))) (pg_name (i := 7) sc_law.nd rfl (Or.inl rfl))) (pss_cons (ps_asg (pe_ix (ix_seq : IxR _ (rIx K)) (pv 4) (pv 7) (fun _ _ => rfl)) (pg_tup (by rfl) (pgs_cons (pg_name (i := 8) sc_law.nd rfl (Or.inl rfl)) (pgs_cons (pg_name (i := 9) sc_law.nd rfl (Or.inl rfl)) (pgs_cons (pg_name (i := 10) sc_law.nd rfl (Or.inl rfl)) pgs_nil))) : PG _ _ (gTup K _ _))) (pss_one (ps_asg (pe_tup (pa_cons (pv 8) (pa_cons (pv 9) (pa_cons (pe_op op_sub (pe_op op_sub (pe_ix (ix_seq : IxR _ (rIx K)) (pe_op op_add3 (pe_lst (pa_cons pe_int pa_nil)) (pv 6)) (pv 8) (fun _ _ => rfl)) (pe_ix (ix_seq : IxR _ (rIx K)) (pe_op op_add3 (pe_lst (pa_cons pe_int pa_nil)) (pv 6)) (pv 9) (fun _ _ => rfl))) pe_int) pa_nil)))) (pg_sub (pv 4) (pv 7) set_list))))) pss_nil) (pss_cons (ps_asg (pe_lst (pa_cons (pe_callTy (call_lst : CallR _ _ (rLst K)) (by rfl) T.z_list (by decide +kernel) (pa_cons (pv 4) pa_nil)) (pa_cons (pe_callTy (call_lst : CallR _ _ (rLst K)) (by rfl) T.z_list (by decide +kernel) (pa_cons (pv 5) pa_nil)) pa_nil))) (pg_name (i := 11) sc_law.nd rfl (Or.inl rfl))) (C8.pss_cut (ps_if (pt_cmpR (op_eq2 hr.units : OpR _ _ (rEq2 K)) (pe_ix (ix_seq : IxR _ (rIx K)) (pv 1) pe_int (fun _ _ => rfl)) pe_int (nomark _)) (pss_one (ps_asg (pe_lst (pa_cons (pe_callTy (W6.call_tup2 : CallR _ _ (W6.rTup K)) (by rfl) T.z_tuple (by decide +kernel) (pa_cons (pv 4) pa_nil)) (pa_cons (pe_callTy (call_lst : CallR _ _ (rLst K)) (by rfl) T.z_list (by decide +kernel) (pa_cons (pv 5) pa_nil)) pa_nil))) (pg_name (i := 11) sc_law.nd rfl (Or.inl rfl)))) pss_nil) (C8.pss_cut (ps_if (pt_cmpR (op_eq2 hr.units : OpR _ _ (rEq2 K)) (pe_ix (ix_seq : IxR _ (rIx K)) (pv 1) pe_int (fun _ _ => rfl)) pe_int (nomark _)) (pss_one (ps_asg (pe_lst (pa_cons (pe_ix (ix_seq : IxR _ (rIx K)) (pv 11) pe_int (fun _ _ => rfl)) (pa_cons (pe_callTy (W6.call_tup2 : CallR _ _ (W6.rTup K)) (by rfl) T.z_tuple (by decide +kernel) (pa_cons (pv 5) pa_nil)) pa_nil))) (pg_name (i := 11) sc_law.nd rfl (Or.inl rfl)))) pss_nil) (pss_cons (ps_asg (pe_callB (WG.call_reprG hq hr.units : CallR _ _ (rRepr K)) (by rfl) T.z_repr (by decide +kernel) (pa_cons (pe_lst (pa_cons (pv 11) (pa_cons (pv 6) pa_nil))) pa_nil)) (pg_name (i := 12) sc_law.nd rfl (Or.inl rfl))) (pss_cons (ps_asg (C8.pe_c (k_law_sum T) hr (by first | decide | omega) (by rfl) (pa_cons (pv 4) (pa_cons (pv 5) pa_nil))) (pg_name (i := 13) sc_law.nd rfl (Or.inl rfl))) (pss_cons (ps_if (pt_not (pt_tr (C8.pe_c (k_law_is_triple T) hr (by first | decide | omega) (by rfl) (pa_cons (C8.pe_c (k_chain_sum T) hr (by first | decide | omega) (by rfl) (pa_cons (pe_ix (ix_seq : IxR _ (rIx K)) (pv 11) pe_int (fun _ _ => rfl)) (pa_cons (pe_ix (ix_seq : IxR _ (rIx K)) (pv 11) pe_int (fun _ _ => rfl)) pa_nil))) (pa_cons (pv 13) pa_nil))) : PT _ _ (tTr K _))) (pss_one (ps_ret pe_bl)) pss_nil) (pss_cons (ps_if (pt_not (pt_tr (C8.pe_c (k_law_tells T) hr (by first | decide | omega) (by rfl) (pa_cons (C8.pe_c (k_is_ring T) hr (by first | decide | omega) (by rfl) (pa_cons (pe_ix (ix_seq : IxR _ (rIx K)) (pv 11) pe_int (fun _ _ => rfl)) (pa_cons (pe_ix (ix_seq : IxR _ (rIx K)) (pv 11) pe_int (fun _ _ => rfl)) pa_nil))) (pa_cons (pe_and (pe_cmpR op_ntN2 (pv 13) pe_non (nomark _)) (pe_and (pe_cmpR (op_eq2 hr.units : OpR _ _ (rEq2 K)) (pe_ix (ix_seq : IxR _ (rIx K)) (pv 13) pe_int (fun _ _ => rfl)) (pe_ix (ix_seq : IxR _ (rIx K)) (pv 13) pe_int (fun _ _ => rfl)) (nomark _)) (pe_one (pe_cmpR op_lt (pe_ix (ix_seq : IxR _ (rIx K)) (pv 13) pe_int (fun _ _ => rfl)) pe_int (nomark _))))) pa_nil))) : PT _ _ (tTr K _))) (pss_one (ps_ret pe_bl)) pss_nil) (pss_cons (ps_for PassesOwn.never rfl (pi_range2 (by rfl) T.z_range (pa_cons pe_int (pa_cons (pe_op op_add3 (pv 2) pe_int) pa_nil))) (pg_name (i := 14) sc_law.nd rfl (Or.inl rfl)) (pss_cons (ps_asg pe_non (pg_name (i := 15) sc_law.nd rfl (Or.inl rfl))) (C8.pss_cut (ps_if (PW.pt (pw_and (pt_cmpR op_ntN2 (pv 13) pe_non (nomark _)) (pw_and (pt_cmpR (op_eq2 hr.units : OpR _ _ (rEq2 K)) (pe_ix (ix_seq : IxR _ (rIx K)) (pv 13) pe_int (fun _ _ => rfl)) pe_int (nomark _)) (pw_and1 (pt_cmpR (op_eq2 hr.units : OpR _ _ (rEq2 K)) (pe_ix (ix_seq : IxR _ (rIx K)) (pv 13) pe_int (fun _ _ => rfl)) (pv 14) (nomark _)))))) (pss_one (ps_asg (pe_un un_neg (pe_ix (ix_seq : IxR _ (rIx K)) (pv 13) pe_int (fun _ _ => rfl))) (pg_name (i := 15) sc_law.nd rfl (Or.inl rfl)))) pss_nil) (pss_one (ps_if (pt_not (pt_tr (C8.pe_c (k_law_same T) hr (by first | decide | omega) (by rfl) (pa_cons (C8.pe_c (k_floor_value T) hr (by first | decide | omega) (by rfl) (pa_cons (pe_ix (ix_seq : IxR _ (rIx K)) (pv 11) pe_int (fun _ _ => rfl)) (pa_cons (pe_ix (ix_seq : IxR _ (rIx K)) (pv 11) pe_int (fun _ _ => rfl)) (pa_cons (pv 14) pa_nil)))) (pa_cons (pv 15) pa_nil))) : PT _ _ (tTr K _))) (pss_one (ps_ret pe_bl)) pss_nil))))) (pss_cons (ps_asg (C8.pe_c (k_law_kept T) hr (by first | decide | omega) (by rfl) (pa_cons (pv 4) (pa_cons (pv 6) pa_nil))) (pg_name (i := 16) sc_law.nd rfl (Or.inl rfl))) (pss_cons (ps_if (PW.pt (pw_or (pt_not (pt_tr (C8.pe_c (k_law_tells T) hr (by first | decide | omega) (by rfl) (pa_cons (C8.pe_c (k_keeps T) hr (by first | decide | omega) (by rfl) (pa_cons (pe_ix (ix_seq : IxR _ (rIx K)) (pv 11) pe_int (fun _ _ => rfl)) (pa_cons (pv 6) pa_nil))) (pa_cons (pv 16) pa_nil))) : PT _ _ (tTr K _))) (pw_or1 (pt_not (pt_tr (C8.pe_c (k_law_tells T) hr (by first | decide | omega) (by rfl) (pa_cons (C8.pe_c (k_keeps T) hr (by first | decide | omega) (by rfl) (pa_cons (pe_ix (ix_seq : IxR _ (rIx K)) (pv 11) pe_int (fun _ _ => rfl)) (pa_cons (pe_callTy (W6.call_tup2 : CallR _ _ (W6.rTup K)) (by rfl) T.z_tuple (by decide +kernel) (pa_cons (pv 6) pa_nil)) pa_nil))) (pa_cons (pv 16) pa_nil))) : PT _ _ (tTr K _)))))) (pss_one (ps_ret pe_bl)) pss_nil) (pss_one (ps_ret (pe_cmpR (op_eq2 hr.units : OpR _ _ (rEq2 K)) (pe_callB (WG.call_reprG hq hr.units : CallR _ _ (rRepr K)) (by rfl) T.z_repr (by decide +kernel) (pa_cons (pe_lst (pa_cons (pv 11) (pa_cons (pv 6) pa_nil))) pa_nil)) (pv 12) (nomark _))))))))))))))))))))))), ?_⟩
    walk_at "xx"
    rename_i lp H0 n0 s0' e0
    refine ⟨a0, _, zs, [8, 7, 9, 2, 2, 3, 1000, 8], 0, rfl, by walk_at "sq", by walk_at "sq", szOk_of (by decide +kernel), fun p H1 ds s1 np e1 hd => ?_⟩
    obtain ⟨d0, _, rfl, l0, u0, hd⟩ := hd.inv
    obtain ⟨d1, _, rfl, l1, u1, hd⟩ := hd.inv
    obtain ⟨d2, _, rfl, l2, u2, hd⟩ := hd.inv
    obtain ⟨d3, _, rfl, l3, u3, hd⟩ := hd.inv
    obtain ⟨d4, _, rfl, l4, u4, hd⟩ := hd.inv
    obtain ⟨d5, _, rfl, l5, u5, hd⟩ := hd.inv
    obtain ⟨d6, _, rfl, l6, u6, hd⟩ := hd.inv
    obtain ⟨d7, _, rfl, l7, u7, hd⟩ := hd.inv
    obtain rfl := hd.nil_inv
    clear hd
    have e1 : H1 p = some (.lst [.int d0, .int d1, .int d2, .int d3, .int d4, .int d5, .int d6, .int d7]) := e1
    have hS1 : SqL K H1 a0 (zs.map V.int) := by walk_at "sq"
    obtain ⟨d2, rfl⟩ : ∃ m : Nat, d2 = m := ⟨d2.toNat, by omega⟩
    clear s1 s0' e0 n0
    walk_at "xx"
    obtain ⟨M, hM⟩ : ∃ m : Nat, 1 + d1 = m := ⟨(1 + d1).toNat, by omega⟩
    have hM1 : 1 ≤ M := by omega
    have hM7 : M ≤ 7 := by omega
    rw [hM]
    walk_at "xx"
    refine s_cut (fun σ H' => ∃ n : Nat, σ = [some (.ref a0), some (.ref p), some (.int M), some (.int n), none, none, none, none, none, none, none, none, none, none, none, none, none, none, none] ∧ H1 = H' ∧ n ≤ 24) ?_ (fun σ H2 p2 => ?_)
    · walk_at "xx"
      refine iteI (fun e => ?_) (fun e => ?_)
      · walk_at "xx"
        exact ⟨8 + 2 * d2, by simp only [Int.natCast_add, Int.natCast_mul]; rfl, rfl, by omega⟩
      · walk_at "xx"
        exact ⟨d2, rfl, rfl, by omega⟩
    obtain ⟨n, rfl, rfl, hn⟩ := p2
    walk_at "xx"
    refine ⟨a0, zs, 1, n, M, rfl, hS1, by omega, by omega, fun dp us H2 ds s2 n2 e2 t2 ld hd => ?_⟩
    walk_at "xx"
    refine ⟨a0, p, dp, zs, d0, [d1, d2, d3, d4, d5, d6, d7], us, ds, M, rfl, s2.seq hS1, s2 _ _ e1, e2, t2, by omega, by omega, fun d h => ⟨(hd d h).1, bd_mono (hd d h).2 (by decide)⟩, fun tp dp np H3 us ds ns s3 e3 f3 t3 g3 dn => ?_⟩
    have s3 := s2.trans s3
    clear s2 n2 e2 t2 ld hd hn
    walk_at "xx"
    refine c_constI (c := 10 ^ 42) (fun _ _ _ h => ?_) (by omega) (fun _ => rfl) fun D H4 nD s4 e4 => ?_
    · walk_at "xx"
      exact h
    walk_at "xx"
    refine ⟨a0, D, zs, _, 6, rfl, (s3.trans s4).seq hS1, lst_of e4, ⟨by rw [List.length_replicate]; omega, fun s hs => by rw [(List.mem_replicate.mp hs).2]; decide +kernel⟩, fun wp H5 dr s5 n5 e5 hdr => ?_⟩
    have lr := hdr.len
    rw [List.length_replicate, Int.toNat_natCast] at lr
    walk_at "xx"
    refine c_intsP (R := Bd 40) (lst_of e5) (fun x H N hN => ?_) (by omega) (fun _ => rfl) fun vp H6 vals nV s6 lv6 bv e6 => ?_
    · walk_at "xx"
      refine ⟨x, rfl, fun r hr => ?_⟩
      exact hN r hr
    have lv6 : vals.length = M := by omega
    have S36 := s4.trans (s5.trans s6)
    have S6 := s3.trans S36
    have ep := S6 _ _ e1
    have ed := S36 _ _ f3
    have td := t3.tk S36.tk
    have en := S36 _ _ g3
    have hS6 := S6.seq hS1
    have hdd : ∀ d ∈ ds, InR M d ∧ Bd 44 d.2.2 := fun d h => ⟨(dn.dd d h).1, bd_mono (dn.dd d h).2 (by decide)⟩
    have ldd := dn.ld
    have lnn := dn.ln
    have bn := dn.nn
    have d43 := dn.dd
    clear S36 S6 s3 s4 s5 s6 e3 f3 t3 g3 dn e4 e5 nD n5 nV hdr lr e1 hS1
    walk_at "xx"
    refine s_cut (fun σ H' => ∃ (dp : Addr) (us : List V) (ds : List Df), σ = [some (.ref a0), some (.ref p), some (.int M), some (.int n), some (.ref dp), some (.ref np), some (.ref vp), none, none, none, none, none, none, none, none, none, none, none, none] ∧ H' p = some (.lst [.int d0, .int d1, .int d2, .int d3, .int d4, .int d5, .int d6, .int d7]) ∧ H' dp = some (.lst us) ∧ TpAll H' us (ds.map dfD) ∧ H' np = some (.lst (ns.map V.int)) ∧ H' vp = some (.lst (vals.map V.int)) ∧ ds.length ≤ 50 ∧ ∀ d ∈ ds, InR M d ∧ Bd 44 d.2.2) ?_ (fun σ H7 p7 => ?_)
    · walk_at "xx"
      refine iteD (fun e => ?_) (fun e => ?_)
      · walk_at "xx"
        refine ⟨a0, dp, vp, zs, us, ds, vals, rfl, hS6, ed, td, e6, by rw [lv6]; exact fun d h => (hdd d h).1, by omega, by omega, fun d h => (d43 d h).2, bv, fun rp H7 us' ds' s7 n7 e7 t7 l7 h7 => ?_⟩
        walk_at "xx"
        exact ⟨rp, us', ds', rfl, s7 _ _ ep, e7, t7, s7 _ _ en, s7 _ _ e6, by omega, lv6 ▸ h7⟩
      · walk_at "xx"
        exact ⟨dp, us, ds, rfl, ep, ed, td, en, e6, ldd, hdd⟩
    clear ep ed td en e6 hdd ldd d43 hS6
    obtain ⟨dp, us, ds, rfl, ep, ed, td, en, ev, ldd, hdd⟩ := p7
    refine s_cut (fun σ H' => ∃ z7 z8 z9 z10 us ds, σ = [some (.ref a0), some (.ref p), some (.int M), some (.int n), some (.ref dp), some (.ref np), some (.ref vp), z7, z8, z9, z10, none, none, none, none, none, none, none, none] ∧ H' p = some (.lst [.int d0, .int d1, .int d2, .int d3, .int d4, .int d5, .int d6, .int d7]) ∧ H' dp = some (.lst us) ∧ TpAll H' us ((ds : List Df).map dfD) ∧ H' np = some (.lst (ns.map V.int)) ∧ H' vp = some (.lst (vals.map V.int)) ∧ ds.length ≤ 50 ∧ ∀ d ∈ ds, InR M d ∧ Bd 44 d.2.2) ?_ (fun σ H8 p8 => ?_)
    · have keep : ∀ z7 z8 z9 z10, ∃ z7' z8' z9' z10' us' ds', ([some (.ref a0), some (.ref p), some (.int M), some (.int n), some (.ref dp), some (.ref np), some (.ref vp), z7, z8, z9, z10, none, none, none, none, none, none, none, none] : L2.St) = [some (.ref a0), some (.ref p), some (.int M), some (.int n), some (.ref dp), some (.ref np), some (.ref vp), z7', z8', z9', z10', none, none, none, none, none, none, none, none] ∧ H7 p = some (.lst [.int d0, .int d1, .int d2, .int d3, .int d4, .int d5, .int d6, .int d7]) ∧ H7 dp = some (.lst us') ∧ TpAll H7 us' ((ds' : List Df).map dfD) ∧ H7 np = some (.lst (ns.map V.int)) ∧ H7 vp = some (.lst (vals.map V.int)) ∧ ds'.length ≤ 50 ∧ ∀ d ∈ ds', InR M d ∧ Bd 44 d.2.2 :=
        fun z7 z8 z9 z10 => ⟨z7, z8, z9, z10, us, ds, rfl, ep, ed, td, en, ev, ldd, hdd⟩
      walk_at "xx"
      refine iteI (fun e => ?_) (fun e => ?_)
      · walk_at "xx"
        refine b_lenL (lst_of ed) ?_
        have lu := td.length
        rw [List.length_map] at lu
        rw [lu]
        walk_at "xx"
        refine iteD (fun e2 => ?_) (fun e2 => ?_)
        · walk_at "xx"
          refine b_lenL (lst_of ed) ?_
          rw [lu]
          refine o_modG (by omega) fun r r0 r1 => ?_
          walk_at "xx"
          obtain ⟨x, gx, tx⟩ := tpAt td (List.getElem?_eq_getElem (show r.toNat < ds.length by omega))
          obtain ⟨p1, _, _, _, rfl, ep1, t1, t2, t3⟩ := WQ.tp3 tx
          cases t1
          cases t2
          cases t3
          obtain ⟨⟨i0, i1, i2, i3⟩, _⟩ := hdd _ (List.getElem_mem (show r.toNat < ds.length by omega))
          refine o_ixL (lst_of ed) (atI_of (j := r.toNat) (by omega) gx) ?_
          generalize ds[r.toNat] = dd at ep1 i0 i1 i2 i3
          walk_at "xx"
          rename_i q1 H9 n9 s9 e9
          refine o_addL e9 (s9 _ _ ev) (by rw [List.length_map]; exact lz (by show 1 + _ ≤ _; omega)) fun q2 H10 n10 s10 e10 => ?_
          have e10 : H10 q2 = some (.lst ((0 :: vals).map V.int)) := e10
          walk_at "xx"
          refine ix_lv (lst_of e10) i0 (by omega) ?_
          walk_at "xx"
          rename_i q3 H11 n11 s11 e11
          have S11 := s9.trans (s10.trans s11)
          refine o_addL e11 (S11 _ _ ev) (by rw [List.length_map]; exact lz (by show 1 + _ ≤ _; omega)) fun q4 H12 n12 s12 e12 => ?_
          have e12 : H12 q4 = some (.lst ((0 :: vals).map V.int)) := e12
          walk_at "xx"
          refine ix_lv (lst_of e12) i2 (by omega) ?_
          walk_at "xx"
          rename_i q5 H13 n13 s13 e13
          have S13 := S11.trans (s12.trans s13)
          have nds : ds ≠ [] := fun e => by
            rw [e] at e2
            simp at e2
          have hp := ne_df ed td nds (xs := [d0, d1, d2, d3, d4, d5, d6, d7]) ep
          have hnp := ne_df ed td nds en
          have hvp := ne_df ed td nds ev
          refine st_L (S13 _ _ ed) (j := r.toNat) (by exact ixN_of r0 (by omega)) fun H14 c14 e14 => ?_
          have k14 : TK H7 H14 := S13.tk.trans (c14.tk (S13 _ _ ed))
          refine ⟨_, _, _, _, us.set r.toNat (.ref q5), ds.set r.toNat (dd.1, dd.2.1, lv vals dd.1 - lv vals dd.2.1 - 1), rfl, c14.at (S13 _ _ ep) hp, e14, ?_, c14.at (S13 _ _ en) hnp, c14.at (S13 _ _ ev) hvp, by rw [List.length_set]; exact ldd, fun d hd => ?_⟩
          · rw [List.map_set]
            exact tpSet (us := us) (ds := []) (td.tk k14) (Tp.tk (c14.tk (S13 _ _ ed)) (.tup e13 (by walk_at "tp")))
          · rcases List.mem_or_eq_of_mem_set hd with hd | rfl
            · exact hdd d hd
            · exact ⟨⟨i0, i1, i2, i3⟩, bd_tight bv⟩
        · walk_at "xx"
          exact keep _ _ _ _
      · walk_at "xx"
        exact keep _ _ _ _
    clear ep ed td en ev ldd hdd
    obtain ⟨z7, z8, z9, z10, us, ds, rfl, ep, ed, td, en, ev, ldd, hdd⟩ := p8
    have lu := td.length
    rw [List.length_map] at lu
    walk_at "xx"
    refine ls_new (lst_of ed) fun x1 H9 n9 s9 e9 => ?_
    walk_at "xx"
    refine ls_new (lst_of (s9 _ _ en)) fun x2 H10 n10 s10 e10 => ?_
    walk_at "xx"
    rename_i g0 H11 n11 s11 e11
    have S11 : Same H8 H11 := s9.trans (s10.trans s11)
    refine s_cut (fun σ H' => ∃ (b1 : Bool) (g x1 x2 : Addr), σ = [some (.ref a0), some (.ref p), some (.int M), some (.int n), some (.ref dp), some (.ref np), some (.ref vp), z7, z8, z9, z10, some (.ref g), none, none, none, none, none, none, none] ∧ Same H8 H' ∧ H' g = some (.lst [.ref x1, .ref x2]) ∧ SqH H' b1 x1 us ∧ H' x2 = some (.lst (ns.map V.int))) ?_ (fun σ H12 p12 => ?_)
    · walk_at "xx"
      refine iteI (fun e => ?_) (fun e => ?_)
      · walk_at "xx"
        refine tp_new (lst_of (S11 _ _ ed)) fun x3 H12 n12 s12 e12 => ?_
        walk_at "xx"
        refine ls_new (lst_of ((S11.trans s12) _ _ en)) fun x4 H13 n13 s13 e13 => ?_
        walk_at "xx"
        rename_i g2 H14 n14 s14 e14
        exact ⟨true, g2, x3, x4, rfl, S11.trans (s12.trans (s13.trans s14)), e14, (s13.trans s14) _ _ e12, s14 _ _ e13⟩
      · walk_at "xx"
        exact ⟨false, g0, x1, x2, rfl, S11, e11, (s10.trans s11) _ _ e9, s11 _ _ e10⟩
    clear S11 s9 s10 s11 e9 e10 e11 n9 n10 n11
    obtain ⟨b1, g, x1, x2, rfl, s12, e12, h1, h2⟩ := p12
    refine s_cut (fun σ H' => ∃ (b2 : Bool) (g x2 : Addr), σ = [some (.ref a0), some (.ref p), some (.int M), some (.int n), some (.ref dp), some (.ref np), some (.ref vp), z7, z8, z9, z10, some (.ref g), none, none, none, none, none, none, none] ∧ Same H8 H' ∧ H' g = some (.lst [.ref x1, .ref x2]) ∧ SqH H' b1 x1 us ∧ SqH H' b2 x2 (ns.map V.int)) ?_ (fun σ H13 p13 => ?_)
    · have ep' := s12 _ _ ep
      walk_at "xx"
      refine iteI (fun e => ?_) (fun e => ?_)
      · walk_at "xx"
        refine tp_new (lst_of (s12 _ _ en)) fun x4 H13 n13 s13 e13 => ?_
        walk_at "xx"
        rename_i g2 H14 n14 s14 e14
        exact ⟨true, g2, x4, rfl, s12.trans (s13.trans s14), e14, h1.same (s13.trans s14), s14 _ _ e13⟩
      · walk_at "xx"
        exact ⟨false, g, x2, rfl, s12, e12, h1, h2⟩
    clear e12 h1 h2 s12 x2
    obtain ⟨b2, g, x2, rfl, s13, eg, h1, h2⟩ := p13
    have ed := s13 _ _ ed
    have td := td.tk s13.tk
    have en := s13 _ _ en
    have ev := s13 _ _ ev
    clear s13 ep
    have RP : Rp 4 120806 (giv b1 b2 ds ns vals) := rp_giv ldd lnn (by omega) (by omega) hdd bn bv
    have DP : ∀ {H2 : Hp} {r : Addr}, Same H13 H2 → H2 r = some (.lst [.ref g, .ref vp]) → Dp K H2 (.ref r) (giv b1 b2 ds ns vals) := fun {H2 r} s2 e2 =>
      .lst (lst_of e2) (.cons (.lst (lst_of (s2 _ _ eg)) (.cons ((h1.same s2).dp (td.tk s2.tk).dp) (.cons ((h2.same s2).dp dp_ints) .nil))) (.cons (.lst (lst_of (s2 _ _ ev)) dp_ints) .nil))
    walk_at "xx"
    rename_i r0 H14 n14 s14 e14
    refine b_repr (DP s14 e14) RP (by decide) (by decide) ?_
    walk_at "xx"
    generalize hrep : (giv b1 b2 ds ns vals).shown = before
    have E1 : ∀ {H2 : Hp}, Same H13 H2 → Sq K H2 x1 us ∧ TpAll H2 us (ds.map dfD) ∧ Sq K H2 x2 (ns.map V.int) := fun {H2} s2 => ⟨(h1.same s2).sq, td.tk s2.tk, (h2.same s2).sq⟩
    refine ⟨dp, np, us, ds, ns, rfl, .inl (lst_of (s14 _ _ ed)), td.tk s14.tk, .inl (lst_of (s14 _ _ en)), by omega, by omega, fun ec H15 s15 => ?_, fun t ec tp H15 s15 nt et => ?_⟩
    · have S15 := s14.trans s15
      have g15 := S15 _ _ eg
      walk_at "xx"
      obtain ⟨q1, q2, q3⟩ := E1 S15
      refine ⟨x1, x2, us, ds, ns, rfl, q1, q2, q3, by omega, by omega, fun _ H16 s16 => ?_, fun t e => absurd (ec.symm.trans e) (by simp)⟩
      walk_at "xx"
      refine .inl ⟨rfl, ?_⟩
      have S16 := S15.trans s16
      have g16 := S16 _ _ eg
      obtain ⟨q1, q2, q3⟩ := E1 S16
      walk_at "xx"
      refine ⟨x1, x2, us, ds, ns, rfl, q1, q2, q3, by omega, by omega, fun H17 s17 => ?_⟩
      rw [ringB_none ec]
      walk_at "xx"
      refine tells_ok ?_
      have S17 := S16.trans s17
      walk_at "xx"
      refine k_r2 (by omega) ?_
      refine f_range (fun i σ H' => ∃ z14 z15, σ = [some (.ref a0), some (.ref p), some (.int M), some (.int n), some (.ref dp), some (.ref np), some (.ref vp), z7, z8, z9, z10, some (.ref g), some (.str before), some (.non), z14, z15, none, none, none] ∧ Same H17 H')
        ⟨_, _, rfl, Same.refl _⟩ (fun i σ H18 hi p => ?_) (fun σ H18 p => ?_)
      · obtain ⟨z14, z15, rfl, s18⟩ := p
        have S18 := S17.trans s18
        have g18 := S18 _ _ eg
        obtain ⟨q1, q2, q3⟩ := E1 S18
        walk_at "xx"
        refine s_cut (fun σ H' => σ = [some (.ref a0), some (.ref p), some (.int M), some (.int n), some (.ref dp), some (.ref np), some (.ref vp), z7, z8, z9, z10, some (.ref g), some (.str before), some (.non), some (.int (1 + i)), some (oI (floorV ds ns (1 + i))), none, none, none] ∧ H18 = H') ?_ (fun σ H19 p => ?_)
        · walk_at "xx"
          rw [floorV_none ec]
          exact ⟨rfl, rfl⟩
        obtain ⟨rfl, rfl⟩ := p
        walk_at "xx"
        refine ⟨x1, x2, us, ds, ns, 1 + i, rfl, q1, q2, q3, by omega, by omega, fun H19 s19 => ?_⟩
        walk_at "xx"
        refine ⟨_, rfl, ?_⟩
        walk_at "xx"
        exact ⟨_, _, rfl, s18.trans s19⟩
      · obtain ⟨z14, z15, rfl, s18⟩ := p
        have S18 := S17.trans s18
        obtain ⟨q1, q2, q3⟩ := E1 S18
        have hin : ∀ d ∈ ds, InR vals.length d := fun d hd => lv6 ▸ (hdd d hd).1
        walk_at "xx"
        refine ⟨dp, vp, us, ds, vals, rfl, .inl (lst_of (S18 _ _ ed)), q2, S18 _ _ ev, hin, by omega, by omega, fun H19 s19 => ?_⟩
        generalize hkk : ds.all (kept vals) = kk
        have S19 := S18.trans s19
        have g19 := S19 _ _ eg
        obtain ⟨q1, q2, q3⟩ := E1 S19
        walk_at "xx"
        refine ⟨x1, vp, us, ds, vals, rfl, q1, q2, .inl (lst_of (S19 _ _ ev)), hin, by omega, by omega, fun H20 s20 => ?_⟩
        rw [hkk]
        walk_at "xx"
        refine tells_ok ?_
        have S20 := S19.trans s20
        have g20 := S20 _ _ eg
        walk_at "xx"
        refine tp_new (lst_of (S20 _ _ ev)) fun tv H21 n21 s21 e21 => ?_
        have S21 := S20.trans s21
        obtain ⟨q1, q2, q3⟩ := E1 S21
        walk_at "xx"
        refine ⟨x1, tv, us, ds, vals, rfl, q1, q2, .inr (tup_of e21), hin, by omega, by omega, fun H22 s22 => ?_⟩
        rw [hkk]
        walk_at "xx"
        refine tells_ok ?_
        have S22 := S21.trans s22
        clear s14 s15 s16 s17 s18 s19 s20 s21 s22
        walk_at "xx"
        rename_i r2 H23 n23 s23 e23
        refine b_repr (DP (S22.trans s23) e23) RP (by decide) (by decide) ?_
        rw [hrep]
        walk_at "xx"
        rw [decide_eq_true rfl]
        exact q _
    · have S15 := s14.trans s15
      have g15 := S15 _ _ eg
      walk_at "xx"
      obtain ⟨q1, q2, q3⟩ := E1 S15
      refine ⟨x1, x2, us, ds, ns, rfl, q1, q2, q3, by omega, by omega, fun e => absurd (ec.symm.trans e) (by simp), fun t' e tp2 H16 s16 n16 e16 => ?_⟩
      obtain rfl : t = t' := Option.some.inj (ec.symm.trans e)
      walk_at "xx"
      refine .inr ⟨tp2, tp, t, rfl, e16, s16 _ _ et, fun H16b s16b => ?_⟩
      have s16 := s16.trans s16b
      clear e16 n16 s16b
      have S16 := S15.trans s16
      have g16 := S16 _ _ eg
      obtain ⟨q1, q2, q3⟩ := E1 S16
      walk_at "xx"
      refine ⟨x1, x2, us, ds, ns, rfl, q1, q2, q3, by omega, by omega, fun H17 s17 => ?_⟩
      rw [ringB_some ec]
      have et17 := (s16.trans s17) _ _ et
      walk_at "xx"
      refine iteI (fun ee => ?_) (fun ee => ?_)
      · rw [decide_eq_true ee, Bool.true_and]
        walk_at "xx"
        refine tells_ok ?_
        have S17 := S16.trans s17
        walk_at "xx"
        refine k_r2 (by omega) ?_
        refine f_range (fun i σ H' => ∃ z14 z15, σ = [some (.ref a0), some (.ref p), some (.int M), some (.int n), some (.ref dp), some (.ref np), some (.ref vp), z7, z8, z9, z10, some (.ref g), some (.str before), some (.ref tp), z14, z15, none, none, none] ∧ Same H17 H')
          ⟨_, _, rfl, Same.refl _⟩ (fun i σ H18 hi p => ?_) (fun σ H18 p => ?_)
        · obtain ⟨z14, z15, rfl, s18⟩ := p
          have S18 := S17.trans s18
          have g18 := S18 _ _ eg
          obtain ⟨q1, q2, q3⟩ := E1 S18
          have et18 := (s16.trans (s17.trans s18)) _ _ et
          walk_at "xx"
          refine s_cut (fun σ H' => σ = [some (.ref a0), some (.ref p), some (.int M), some (.int n), some (.ref dp), some (.ref np), some (.ref vp), z7, z8, z9, z10, some (.ref g), some (.str before), some (.ref tp), some (.int (1 + i)), some (oI (floorV ds ns (1 + i))), none, none, none] ∧ H18 = H') ?_ (fun σ H19 p => ?_)
          · walk_at "xx"
            refine iteI (fun e1 => ?_) (fun e1 => ?_)
            · walk_at "xx"
              refine iteI (fun e2 => ?_) (fun e2 => ?_)
              · walk_at "xx"
                rw [floorV_some ec, if_pos ⟨e1, e2⟩]
                exact ⟨rfl, rfl⟩
              · walk_at "xx"
                rw [floorV_some ec, if_neg (fun h => e2 h.2)]
                exact ⟨rfl, rfl⟩
            · walk_at "xx"
              rw [floorV_some ec, if_neg (fun h => e1 h.1)]
              exact ⟨rfl, rfl⟩
          obtain ⟨rfl, rfl⟩ := p
          walk_at "xx"
          refine ⟨x1, x2, us, ds, ns, 1 + i, rfl, q1, q2, q3, by omega, by omega, fun H19 s19 => ?_⟩
          walk_at "xx"
          refine ⟨_, rfl, ?_⟩
          walk_at "xx"
          exact ⟨_, _, rfl, s18.trans s19⟩
        · obtain ⟨z14, z15, rfl, s18⟩ := p
          have S18 := S17.trans s18
          obtain ⟨q1, q2, q3⟩ := E1 S18
          have hin : ∀ d ∈ ds, InR vals.length d := fun d hd => lv6 ▸ (hdd d hd).1
          walk_at "xx"
          refine ⟨dp, vp, us, ds, vals, rfl, .inl (lst_of (S18 _ _ ed)), q2, S18 _ _ ev, hin, by omega, by omega, fun H19 s19 => ?_⟩
          generalize hkk : ds.all (kept vals) = kk
          have S19 := S18.trans s19
          have g19 := S19 _ _ eg
          obtain ⟨q1, q2, q3⟩ := E1 S19
          walk_at "xx"
          refine ⟨x1, vp, us, ds, vals, rfl, q1, q2, .inl (lst_of (S19 _ _ ev)), hin, by omega, by omega, fun H20 s20 => ?_⟩
          rw [hkk]
          walk_at "xx"
          refine tells_ok ?_
          have S20 := S19.trans s20
          have g20 := S20 _ _ eg
          walk_at "xx"
          refine tp_new (lst_of (S20 _ _ ev)) fun tv H21 n21 s21 e21 => ?_
          have S21 := S20.trans s21
          obtain ⟨q1, q2, q3⟩ := E1 S21
          walk_at "xx"
          refine ⟨x1, tv, us, ds, vals, rfl, q1, q2, .inr (tup_of e21), hin, by omega, by omega, fun H22 s22 => ?_⟩
          rw [hkk]
          walk_at "xx"
          refine tells_ok ?_
          have S22 := S21.trans s22
          clear s14 s15 s16 s17 s18 s19 s20 s21 s22
          walk_at "xx"
          rename_i r2 H23 n23 s23 e23
          refine b_repr (DP (S22.trans s23) e23) RP (by decide) (by decide) ?_
          rw [hrep]
          walk_at "xx"
          rw [decide_eq_true rfl]
          exact q _
      · rw [decide_eq_false ee, Bool.false_and]
        walk_at "xx"
        refine tells_ok ?_
        have S17 := S16.trans s17
        walk_at "xx"
        refine k_r2 (by omega) ?_
        refine f_range (fun i σ H' => ∃ z14 z15, σ = [some (.ref a0), some (.ref p), some (.int M), some (.int n), some (.ref dp), some (.ref np), some (.ref vp), z7, z8, z9, z10, some (.ref g), some (.str before), some (.ref tp), z14, z15, none, none, none] ∧ Same H17 H')
          ⟨_, _, rfl, Same.refl _⟩ (fun i σ H18 hi p => ?_) (fun σ H18 p => ?_)
        · obtain ⟨z14, z15, rfl, s18⟩ := p
          have S18 := S17.trans s18
          have g18 := S18 _ _ eg
          obtain ⟨q1, q2, q3⟩ := E1 S18
          have et18 := (s16.trans (s17.trans s18)) _ _ et
          walk_at "xx"
          refine s_cut (fun σ H' => σ = [some (.ref a0), some (.ref p), some (.int M), some (.int n), some (.ref dp), some (.ref np), some (.ref vp), z7, z8, z9, z10, some (.ref g), some (.str before), some (.ref tp), some (.int (1 + i)), some (oI (floorV ds ns (1 + i))), none, none, none] ∧ H18 = H') ?_ (fun σ H19 p => ?_)
          · walk_at "xx"
            refine iteI (fun e1 => ?_) (fun e1 => ?_)
            · walk_at "xx"
              refine iteI (fun e2 => ?_) (fun e2 => ?_)
              · walk_at "xx"
                rw [floorV_some ec, if_pos ⟨e1, e2⟩]
                exact ⟨rfl, rfl⟩
              · walk_at "xx"
                rw [floorV_some ec, if_neg (fun h => e2 h.2)]
                exact ⟨rfl, rfl⟩
            · walk_at "xx"
              rw [floorV_some ec, if_neg (fun h => e1 h.1)]
              exact ⟨rfl, rfl⟩
          obtain ⟨rfl, rfl⟩ := p
          walk_at "xx"
          refine ⟨x1, x2, us, ds, ns, 1 + i, rfl, q1, q2, q3, by omega, by omega, fun H19 s19 => ?_⟩
          walk_at "xx"
          refine ⟨_, rfl, ?_⟩
          walk_at "xx"
          exact ⟨_, _, rfl, s18.trans s19⟩
        · obtain ⟨z14, z15, rfl, s18⟩ := p
          have S18 := S17.trans s18
          obtain ⟨q1, q2, q3⟩ := E1 S18
          have hin : ∀ d ∈ ds, InR vals.length d := fun d hd => lv6 ▸ (hdd d hd).1
          walk_at "xx"
          refine ⟨dp, vp, us, ds, vals, rfl, .inl (lst_of (S18 _ _ ed)), q2, S18 _ _ ev, hin, by omega, by omega, fun H19 s19 => ?_⟩
          generalize hkk : ds.all (kept vals) = kk
          have S19 := S18.trans s19
          have g19 := S19 _ _ eg
          obtain ⟨q1, q2, q3⟩ := E1 S19
          walk_at "xx"
          refine ⟨x1, vp, us, ds, vals, rfl, q1, q2, .inl (lst_of (S19 _ _ ev)), hin, by omega, by omega, fun H20 s20 => ?_⟩
          rw [hkk]
          walk_at "xx"
          refine tells_ok ?_
          have S20 := S19.trans s20
          have g20 := S20 _ _ eg
          walk_at "xx"
          refine tp_new (lst_of (S20 _ _ ev)) fun tv H21 n21 s21 e21 => ?_
          have S21 := S20.trans s21
          obtain ⟨q1, q2, q3⟩ := E1 S21
          walk_at "xx"
          refine ⟨x1, tv, us, ds, vals, rfl, q1, q2, .inr (tup_of e21), hin, by omega, by omega, fun H22 s22 => ?_⟩
          rw [hkk]
          walk_at "xx"
          refine tells_ok ?_
          have S22 := S21.trans s22
          clear s14 s15 s16 s17 s18 s19 s20 s21 s22
          walk_at "xx"
          rename_i r2 H23 n23 s23 e23
          refine b_repr (DP (S22.trans s23) e23) RP (by decide) (by decide) ?_
          rw [hrep]
          walk_at "xx"
          rw [decide_eq_true rfl]
          exact q _
end
end K14
open PySem PySem.W PySem.Calls PyProof.Rows
set_option maxHeartbeats 0 in
theorem PySem.Challenge.cw_wayorring_k14_chains_holds : PySem.Challenge.rw_wayorring_k14_chains.Holds := by
  w_on; o_law
  refine HandSHeadRun.head_any (r := OpenLaw.row PySem.Challenge.rw_wayorring_k14_chains) (q := view (OpenLaw.row PySem.Challenge.rw_wayorring_k14_chains).prog [20]) (H := K14.hk) (ob := K14.ob) (M := 20000) (loose := K14.loose) (d := HandSHeadRun.topDef (OpenLaw.row PySem.Challenge.rw_wayorring_k14_chains).prog 20) (kwd := []) K14.ob_eq
    (by kernel_rfl) (fun s => by kernel_rfl) K14.run (by kernel_rfl) (by kernel_rfl) (by kernel_rfl) (by rfl) (by first | assumption | decide +kernel) (by decide +kernel) ⟨rfl, rfl, rfl, rfl, rfl, by decide +kernel⟩ ?hw ?hc
  case hw => w_witness2
  case hc =>
    refine WG.walkG (l := PySem.Challenge.rw_wayorring_k14_chains) (n := 63) (k := 6) (x := "script") rfl (by decide) (by kernel_rfl) ⟨rfl, by decide, by decide⟩ ?F
    intro w mg fa h Y G hmg0
    obtain ⟨K, KX, c⟩ := Y
    have hmg : mg ("law" : PySem.Str) = some (.ref fa) := by
      have e : (HandSHeadRun.topDef (OpenLaw.row PySem.Challenge.rw_wayorring_k14_chains).prog 20).name = ("law" : PySem.Str) := by kernel_rfl
      rw [← e]
      exact hmg0
    have T := K14.tx_of KX G c
    obtain ⟨f, fd, F, e2⟩ := T.d_law.ex
    have e3 := hmg.symm.trans e2
    cases e3
    exact ⟨K, fd, K14.spLaw K, KX, fun s v => L2.FunD.bindsA (ps := ["script"]) F (fun _ _ _ _ _ _ us hl => match us, hl with | [_], _ => rfl) s [v] rfl, fun H a ns hl hS => ⟨a, ns, rfl, hS, hl, fun _ => rfl⟩, fun base => K14.ok_law T F⟩

