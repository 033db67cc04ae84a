import PyProof.Rows.All
import Wide.All
import OpenK.AllK
import Wide.FinOn
import KE.KStateDown
import HandS.ForMost
import HandS.IsInst
import HandS.Codes
import HandS.Exc
import HandS.Defaults
import HandS.Head0
import HandS.Head1
import HandS.Head2
import HandS.HeadEnd
import HandS.HeadHook1
import HandS.HeadHook2
import HandS.HeadHook3
import HandS.HeadHook4
import HandS.FStr
import HandS.Dict
import HandS.More
import Wide.Once
import HandS.Conv
import HandS.Wide
import HandS.Style
import HandS.Star
import HandS.TupAny
import PyProof.ReprRoads
import PyProof.ReprLen
import PyProof.P3Eq
import HandS.Walk
import HandS.Iter
import PyProof.DictMoreH
import HandS.Flow
import HandS.Deep
import PySem.Challenge.RW_wayorring_k39_shortest_papers
set_option Elab.async false
set_option linter.all false
set_option maxRecDepth 100000
set_option maxHeartbeats 8000000
/-! Wy: rules that take operands of several kinds, and steps. -/
namespace Wy
open PySem PySem.Spec PyProof.Rows L2
section
variable {X : Cx}
theorem CallR.or {f : Value} {r r' : List V → Hp → VK → Prop} (h : CallR X f r) (h' : CallR X f r') : CallR X f (fun xs H Q => r xs H Q ∨ r' xs H Q) := by
  intro pins s σ H xs us Q I rv q
  rcases q with q | q
  · exact h pins s σ H xs us Q I rv q
  · exact h' pins s σ H xs us Q I rv q
/-- k times a text -/
def repS (z : Str) (k : Int) : Str := ⟨(List.replicate k.toNat z.cps.toList).flatten.toArray⟩
theorem foldl_rep (a : Array Nat) : ∀ (n : Nat) (acc : Array Nat), ((List.replicate n a).foldl (· ++ ·) acc) = (acc.toList ++ (List.replicate n a.toList).flatten).toArray
  | 0, acc => by simp
  | n + 1, acc => by
    rw [List.replicate_succ, List.foldl_cons, foldl_rep a n, List.replicate_succ, List.flatten_cons]
    simp
theorem repS_eq (z : Str) (n : Int) : (⟨(List.replicate n.toNat z.cps).foldl (· ++ ·) #[]⟩ : Str) = repS z n := by
  unfold repS
  rw [foldl_rep]
  simp
def rMulSI : R2 := fun x y H Q => ∃ z k, x = .str z ∧ y = .int k ∧ 0 ≤ k ∧ k ≤ 1000 ∧ z.length ≤ 1000 ∧ Q (.str (repS z k)) H
theorem op_mulSI : OpR X (binaryOp .Mult) rMulSI := by
  intro pins s σ H x y v u Q I rx ry h
  obtain ⟨z, k, rfl, rfl, h0, h1, h2, q⟩ := h
  obtain ⟨t, rfl⟩ := rx
  obtain ⟨t', rfl⟩ := ry
  have hs : sizeLine = 16777216 := sizeLine_eq
  refine PySem.P.mul_str ?_ (fun a b => ?_) (fun a b => ?_) ?_
  · rw [decide_eq_false (by omega), decide_eq_false (by omega)]
    rfl
  · have h3 : (1000 : Int) ≤ (2 ^ 63 - 1) / k := (Int.le_ediv_iff_mul_le (by omega)).mpr (by omega)
    omega
  · unfold Builtin.Str.tooLong
    rw [decide_eq_false_iff_not]
    have h4 : z.length * k.toNat ≤ 1000 * 1000 := Nat.mul_le_mul h2 (by omega)
    omega
  · by_cases a : k < 1
    · have ek : k = 0 := by omega
      subst ek
      rw [if_pos a]
      have e : repS z 0 = Str.empty := rfl
      rw [e] at q
      exact ⟨by decide, .str Str.empty, H, I.tok _, ⟨_, rfl⟩, q⟩
    · rw [if_neg a]
      by_cases b : (k == 1 || z.length == 0) = true
      · rw [if_pos b]
        have e : repS z k = z := by
          rcases Bool.or_eq_true_iff.mp b with b | b
          · have e1 : k = 1 := by simpa using b
            subst e1
            unfold repS
            simp
          · have e1 : z.length = 0 := by simpa using b
            have e2 : z.cps = #[] := by simpa [Str.length] using e1
            obtain ⟨c⟩ := z
            unfold repS
            simp at e2
            subst e2
            simp
        rw [e] at q
        exact ⟨.str z, H, I, ⟨_, rfl⟩, q⟩
      · rw [if_neg b, repS_eq]
        refine ⟨?_, .str (repS z k), H, I.tok _, ⟨_, rfl⟩, q⟩
        have h4 : (repS z k).length = k.toNat * z.length := by
          unfold repS
          simp [Str.length, List.length_flatten, List.map_replicate, List.sum_replicate_nat]
        rw [h4]
        have h5 : k.toNat * z.length ≤ 1000 * 1000 := Nat.mul_le_mul (by omega) h2
        omega
/-- + of two ints, two texts, two lists -/
def rAddS : R2 := fun x y H Q => ∃ i j, x = .str i ∧ y = .str j ∧ i.length + j.length ≤ sizeLine ∧ Q (.str (i ++ j)) H
def rAddI : R2 := rI0 fun i j => .int (i + j)
def rAdd3 : R2 := fun x y H Q => rAddI x y H Q ∨ rAddS x y H Q ∨ rCat x y H Q
theorem op_add3 : OpR X (binaryOp .Add) rAdd3 := op_add.or (op_add_str.or op_cat)
def rMul2 : R2 := fun x y H Q => rI CMul (fun i j => .int (i * j)) x y H Q ∨ rMulSI x y H Q
theorem op_mul2 : OpR X (binaryOp .Mult) rMul2 := op_mul.or op_mulSI
/-- == -/
def rEq2 (K : PySem.W.Frag) : R2 := fun x y H Q => rEq x y H Q ∨ rEqD K x y H Q
theorem op_eq2 (hu : X.A.units + 64 < cLine) : OpR X (compareOp .Eq) (rEq2 X.K) := op_eq.or (op_eqD hu)
def rNe2 (K : PySem.W.Frag) : R2 := fun x y H Q => rNe x y H Q ∨ rNeD K x y H Q
theorem op_ne2 (hu : X.A.units + 64 < cLine) : OpR X (compareOp .NotEq) (rNe2 X.K) := op_ne.or (op_neD hu)
/-- in: a sign in a text; a flat item in a list or tuple -/
def rInS : R2 := fun x y H Q => ∃ (c : Nat) (z : Str), x = .str ⟨#[c]⟩ ∧ y = .str z ∧ Q (.bl (decide (c ∈ z.cps.toList))) H
def rNiS : R2 := fun x y H Q => ∃ (c : Nat) (z : Str), x = .str ⟨#[c]⟩ ∧ y = .str z ∧ Q (.bl (!decide (c ∈ z.cps.toList))) H
def rIn2 (K : PySem.W.Frag) : R2 := fun x y H Q => rInS x y H Q ∨ rIn K false x y H Q
def rNi2 (K : PySem.W.Frag) : R2 := fun x y H Q => rNiS x y H Q ∨ rIn K true x y H Q
theorem op_in2 : OpR X (compareOp .In) (rIn2 X.K) := op_in_sign.or op_in_seq
theorem op_ni2 : OpR X (compareOp .NotIn) (rNi2 X.K) := op_notIn_sign.or op_notIn_seq
def rSl2 (K : PySem.W.Frag) : V → Option Int → Option Int → Hp → VK → Prop := fun x lo hi H Q => rSlS x lo hi H Q ∨ rSlL K x lo hi H Q
theorem sl_2 : SlR X (rSl2 X.K) := sl_str.or sl_list
def rInt : List V → Hp → VK → Prop := fun xs H Q => ((∃ i, xs = [.int i] ∧ Q (.int i) H) ∨ ∃ k, xs = [.bl k] ∧ Q (.int (if k then 1 else 0)) H) ∨ ∃ a n, xs = [.str a] ∧ PySem.intText? a = some n ∧ a.length ≤ 640 ∧ Q (.int n) H
theorem call_int2 : CallR X (.type "int") rInt := CallR.or call_int1 call_int_str
def rAbs : List V → Hp → VK → Prop := fun xs H Q => ∃ i, xs = [.int i] ∧ Q (.int (if i < 0 then -i else i)) H
theorem call_abs2 : CallR X (.builtin "abs") rAbs := call_abs
def rLn (K : PySem.W.Frag) : List V → Hp → VK → Prop := fun xs H Q => ∃ x n, xs = [x] ∧ LenV K x H n ∧ Q (.int n) H
theorem call_len2 : CallR X (.builtin "len") (rLn X.K) := call_len
def tTr (K : PySem.W.Frag) (ta : TE) : TT := fun σ H Q => ta σ H fun x H' => ∃ k, TruV K x H' k ∧ Q k H'
theorem pt_tr {e : Expr} {te : TE} (h : PE X e te) (he : ∀ whole, isTrue e X.env whole = (do let v ← whole; standAt e.pos; holding [v] (truthy v)) := by intro _; rfl) : PT X e (tTr X.K te) := pt_truth h he
end

/-! ### what a heap keeps -/
/-- only at l -/
def Chg (l : Addr) (H H' : Hp) : Prop := ∀ b, b ≠ l → H' b = H b
theorem same_new {H : Hp} {p : Addr} {o : HO} (h : H p = none) : Same H (upd H p o) := fun b x e => by
  rw [upd_ne (ne_of_none e h)]
  exact e
theorem chg_upd {H : Hp} {p : Addr} {o : HO} : Chg p H (upd H p o) := fun b e => by rw [upd_ne e]
theorem Chg.same {l : Addr} {H0 H H' : Hp} (c : Chg l H H') (s : Same H0 H) (n : H0 l = none) : Same H0 H' := fun b o e => by
  rw [c b (ne_of_none e n)]
  exact s b o e
theorem Chg.at {l b : Addr} {H H' : Hp} {o : HO} (c : Chg l H H') (e : H b = some o) (n : b ≠ l) : H' b = some o := by
  rw [c b n]
  exact e
theorem new_same {H : Hp} {o : HO} {Q : VK} (h : ∀ p H2, H p = none → Same H H2 → H2 p = some o → Q (.ref p) H2) : ∀ p, H p = none → Q (.ref p) (upd H p o) :=
  fun p np => h p _ np (same_new np) upd_same
theorem lst_of {K : PySem.W.Frag} {H : Hp} {a : Addr} {xs : List V} (h : H a = some (.lst xs)) : SqL K H a xs := .inl (.inl h)
theorem tup_of {K : PySem.W.Frag} {H : Hp} {a : Addr} {xs : List V} (h : H a = some (.tup xs)) : SqT K H a xs := .inl (.inl h)
theorem seqT {K : PySem.W.Frag} {H H' : Hp} {a : Addr} {xs : List V} (e : Same H H') (h : SqT K H a xs) : SqT K H' a xs := by
  rcases h with (h | ⟨o, h⟩) | h
  · exact .inl (.inl (e _ _ h))
  · exact .inl (.inr ⟨o, e _ _ h⟩)
  · exact .inr h
/-! ### steps -/
def KBl (x : V) (H : Hp) (QT : Bool → Hp → Prop) : Prop := ∃ k, x = .bl k ∧ QT k H
def KTr (K : PySem.W.Frag) (x : V) (H : Hp) (QT : Bool → Hp → Prop) : Prop := ∃ k, TruV K x H k ∧ QT k H
def KInt (x : V) (H : Hp) (QO : Option Int → Hp → Prop) : Prop := ∃ i, x = .int i ∧ QO (some i) H
def KR1 (vs : List V) (H : Hp) (R : It → Hp → Prop) : Prop := ∃ j : Int, vs = [.int j] ∧ -(2 ^ 62) ≤ j ∧ j < 2 ^ 62 ∧ R (Itr 0 j.toNat) H
def KR2 (vs : List V) (H : Hp) (R : It → Hp → Prop) : Prop := ∃ i j : Int, vs = [.int i, .int j] ∧ (-(2 ^ 62) ≤ i ∧ i < 2 ^ 62 ∧ -(2 ^ 62) ≤ j ∧ j < 2 ^ 62) ∧ R (Itr i (j - i).toNat) H
def KL (K : PySem.W.Frag) (x : V) (H : Hp) (R : It → Hp → Prop) : Prop := ∃ a, x = .ref a ∧ (∃ xs, SqL K H a xs) ∧ R (Itl K a) H
def KT (K : PySem.W.Frag) (x : V) (H : Hp) (R : It → Hp → Prop) : Prop := ∃ a, x = .ref a ∧ (∃ xs, SqT K H a xs) ∧ R (Itt K a) H
def KS (x : V) (H : Hp) (R : It → Hp → Prop) : Prop := ∃ z, x = .str z ∧ R (Its z) H
def NewO (n : Nat) (o : HO) (H : Hp) (Q : VK) : Prop := n ≤ sizeLine ∧ ∀ p, H p = none → Q (.ref p) (upd H p o)
def COut (D : Addr) (y : V) (H : Hp) (N : Hp → Prop) : Prop := ∃ acc, H D = some (.lst acc) ∧ acc.length < sizeLine ∧ N (upd H D (.lst (acc ++ [y])))
def KWh (W : Nat → L2.St → Hp → Prop) (m : Nat) (t : TS) (D : Ends) (σ : L2.St) (H : Hp) : Prop := ∃ N : L2.St → Hp → Prop, (∀ σ' H', N σ' H' → ∃ m', m' < m ∧ W m' σ' H') ∧ t ⟨N, D.rt, D.nx, N⟩ σ H
section
variable {K : PySem.W.Frag} {σ : L2.St} {H : Hp} {Q : VK} {QT : Bool → Hp → Prop} {D : Ends} {t u : TS} {c c' : TT} {te ta tb : TE} {g : TG} {v x y : V} {i : Nat} {b : Bool} {QA : List V → Hp → Prop}
theorem s_seq (h : t ⟨u D, D.rt, D.bk, D.ct⟩ σ H) : tSeq t u D σ H := h
theorem s_asg (h : te σ H fun x H1 => g x σ H1 D.nx) : tAsg te g D σ H := h
theorem g_name {QS : L2.St → Hp → Prop} (h : QS (σ.set i (some v)) H) : gName i v σ H QS := h
theorem s_ret (h : te σ H D.rt) : tRet te D σ H := h
theorem s_retN (h : D.rt .non H) : tRetN D σ H := h
theorem s_drop (h : te σ H fun _ H1 => D.nx σ H1) : tDrop te D σ H := h
theorem s_if (h : c σ H fun b H1 => if b = true then t D σ H1 else u D σ H1) : tIfS c t u D σ H := h
theorem s_next (h : D.nx σ H) : tNext D σ H := h
theorem s_brk (h : D.bk σ H) : tBreak D σ H := h
theorem s_ct (h : D.ct σ H) : tCont D σ H := h
theorem s_aug {ti : TIp} (e : σ[i]? = some (some x)) (h : te σ H fun y H1 => ti x y H1 fun z H2 => D.nx (σ.set i (some z)) H2) : tAug i te ti D σ H := ⟨x, e, h⟩
theorem i_add {i j : Int} {f : Int → Int → Int} (h : Q (.int (f i j)) H) : ipI f (.int i) (.int j) H Q := ⟨i, j, rfl, rfl, h⟩
theorem s_cut (M : L2.St → Hp → Prop) (h : t ⟨M, D.rt, D.bk, D.ct⟩ σ H) (k : ∀ σ' H', M σ' H' → u D σ' H') : C8.tCut t u D σ H := ⟨M, h, k⟩
theorem e_var (e : σ[i]? = some (some v)) (h : Q v H) : tVar i σ H Q := ⟨v, e, h⟩
theorem e_c (h : Q v H) : tC v σ H Q := h
theorem e_op {r : R2} (h : ta σ H fun x H1 => tb σ H1 fun y H2 => r x y H2 Q) : tOp r ta tb σ H Q := h
theorem e_un {r : V → Hp → VK → Prop} (h : ta σ H fun x H1 => r x H1 Q) : tUn r ta σ H Q := h
theorem o_addI {i j : Int} (h : Q (.int (i + j)) H) : rAdd3 (.int i) (.int j) H Q := .inl ⟨i, j, rfl, rfl, h⟩
theorem o_addS {i j : Str} (hz : i.length + j.length ≤ sizeLine) (h : Q (.str (i ++ j)) H) : rAdd3 (.str i) (.str j) H Q := .inr (.inl ⟨i, j, rfl, rfl, hz, h⟩)
theorem o_addL {a a' : Addr} {xs ys : List V} (ha : H a = some (.lst xs)) (hb : H a' = some (.lst ys)) (hz : xs.length + ys.length ≤ sizeLine) (h : ∀ p H2, H p = none → Same H H2 → H2 p = some (.lst (xs ++ ys)) → Q (.ref p) H2) :
    rAdd3 (.ref a) (.ref a') H Q := .inr (.inr ⟨a, a', xs, ys, rfl, rfl, ha, hb, hz, new_same h⟩)
theorem o_mulI {i j : Int} (hc : CMul i j) (h : Q (.int (i * j)) H) : rMul2 (.int i) (.int j) H Q := .inl ⟨i, j, rfl, rfl, hc, h⟩
theorem o_mulI1 {i j : Int} (h1 : -(2 ^ 64) < i) (h2 : i < 2 ^ 64) (h : Q (.int (i * j)) H) : rMul2 (.int i) (.int j) H Q := o_mulI (.inl ⟨h1, h2⟩) h
theorem o_mulI2 {i j : Int} (h1 : -(2 ^ 64) < j) (h2 : j < 2 ^ 64) (h : Q (.int (i * j)) H) : rMul2 (.int i) (.int j) H Q := o_mulI (.inr ⟨h1, h2⟩) h
theorem o_mod {f : Int → Int → V} {i j : Int} (h1 : 0 < j) (h : Q (f i j) H) : rI (fun _ j => 0 < j) f (.int i) (.int j) H Q := ⟨i, j, rfl, rfl, h1, h⟩
theorem o_fdiv {f : Int → Int → V} {i j : Int} (h1 : 0 < j) (h2 : j < 1073741824) (h : Q (f i j) H) : rI CDiv f (.int i) (.int j) H Q := ⟨i, j, rfl, rfl, ⟨h1, h2⟩, h⟩
theorem o_pow {f : Int → Int → V} {i j : Int} (h1 : 0 ≤ j) (h2 : j ≤ 1000000) (h3 : i.natAbs < 2 ^ 64) (h : Q (f i j) H) : rI CPow f (.int i) (.int j) H Q := ⟨i, j, rfl, rfl, ⟨h1, h2, h3⟩, h⟩
theorem o_mulS {z : Str} {k : Int} (h0 : 0 ≤ k) (h1 : k ≤ 1000) (h2 : z.length ≤ 1000) (h : Q (.str (repS z k)) H) : rMul2 (.str z) (.int k) H Q := .inr ⟨z, k, rfl, rfl, h0, h1, h2, h⟩
theorem o_I0 {f : Int → Int → V} {i j : Int} (h : Q (f i j) H) : rI0 f (.int i) (.int j) H Q := ⟨i, j, rfl, rfl, h⟩
theorem o_I {C : Int → Int → Prop} {f : Int → Int → V} {i j : Int} (hc : C i j) (h : Q (f i j) H) : rI C f (.int i) (.int j) H Q := ⟨i, j, rfl, rfl, hc, h⟩
theorem o_eqS (hs : scal x y = true) (h : Q (.bl (decide (x = y))) H) : rEq2 K x y H Q := .inl ⟨hs, h⟩
theorem o_neS (hs : scal x y = true) (h : Q (.bl (!decide (x = y))) H) : rNe2 K x y H Q := .inl ⟨hs, h⟩
theorem o_eqD {d e : PyData} (h1 : Dp K H x d) (h2 : Dp K H y e) (h3 : SeqAt.shaped d = true) (h4 : SeqAt.shaped e = true) (h : Q (.bl (PyData.eqv d e)) H) : rEq2 K x y H Q := .inr ⟨d, e, h1, h2, h3, h4, h⟩
theorem o_neD {d e : PyData} (h1 : Dp K H x d) (h2 : Dp K H y e) (h3 : SeqAt.shaped d = true) (h4 : SeqAt.shaped e = true) (h : Q (.bl (!PyData.eqv d e)) H) : rNe2 K x y H Q := .inr ⟨d, e, h1, h2, h3, h4, h⟩
theorem o_inS {k : Nat} {z : Str} (h : Q (.bl (decide (k ∈ z.cps.toList))) H) : rIn2 K (.str ⟨#[k]⟩) (.str z) H Q := .inl ⟨k, z, rfl, rfl, h⟩
theorem o_niS {k : Nat} {z : Str} (h : Q (.bl (!decide (k ∈ z.cps.toList))) H) : rNi2 K (.str ⟨#[k]⟩) (.str z) H Q := .inl ⟨k, z, rfl, rfl, h⟩
theorem o_inT {a : Addr} {xs : List V} (hs : SqT K H a xs) (hf : flatV x = true) (hg : xs.all flatV = true) (h : Q (.bl (inV x xs)) H) : rIn2 K x (.ref a) H Q := .inr ⟨a, xs, rfl, .inr hs, hf, hg, h⟩
theorem o_inL {a : Addr} {xs : List V} (hs : SqL K H a xs) (hf : flatV x = true) (hg : xs.all flatV = true) (h : Q (.bl (inV x xs)) H) : rIn2 K x (.ref a) H Q := .inr ⟨a, xs, rfl, .inl hs, hf, hg, h⟩
theorem o_niT {a : Addr} {xs : List V} (hs : SqT K H a xs) (hf : flatV x = true) (hg : xs.all flatV = true) (h : Q (.bl (!inV x xs)) H) : rNi2 K x (.ref a) H Q := .inr ⟨a, xs, rfl, .inr hs, hf, hg, h⟩
theorem o_niL {a : Addr} {xs : List V} (hs : SqL K H a xs) (hf : flatV x = true) (hg : xs.all flatV = true) (h : Q (.bl (!inV x xs)) H) : rNi2 K x (.ref a) H Q := .inr ⟨a, xs, rfl, .inl hs, hf, hg, h⟩
def rIsN : R2 := fun x y H Q => y = .non ∧ Q (.bl (decide (x = .non))) H
def rNtN : R2 := fun x y H Q => y = .non ∧ Q (.bl (!decide (x = .non))) H
theorem op_isN2 {X : Cx} : OpR X (compareOp .Is) rIsN := op_isN
theorem op_ntN2 {X : Cx} : OpR X (compareOp .IsNot) rNtN := op_notN
theorem o_isN (h : Q (.bl (decide (x = .non))) H) : rIsN x .non H Q := ⟨rfl, h⟩
theorem o_ntN (h : Q (.bl (!decide (x = .non))) H) : rNtN x .non H Q := ⟨rfl, h⟩
theorem o_ixL {a : Addr} {xs : List V} {j : Int} (hs : SqL K H a xs) (e : atI xs j = some v) (h : Q v H) : rIx K (.ref a) (.int j) H Q := .inl ⟨a, xs, j, v, rfl, rfl, hs, e, h⟩
theorem o_ixT {a : Addr} {xs : List V} {j : Int} (hs : SqT K H a xs) (e : atI xs j = some v) (h : Q v H) : rIx K (.ref a) (.int j) H Q := .inr (.inl ⟨a, xs, j, v, rfl, rfl, hs, e, h⟩)
theorem o_ixS {z : Str} {j : Int} {k : Nat} (hz : z.length ≤ sizeLine) (e : atI z.cps.toList j = some k) (h : Q (.str ⟨#[k]⟩) H) : rIx K (.str z) (.int j) H Q := .inr (.inr ⟨z, j, k, rfl, rfl, hz, e, h⟩)
theorem u_neg {i : Int} {f : Int → V} (h : Q (f i) H) : rU f (.int i) H Q := ⟨i, rfl, h⟩
theorem t_test (h : te σ H fun x H' => KBl x H' QT) : tTest te σ H QT := h
theorem t_b (h : te σ H fun x H' => KBl x H' QT) : tB te σ H QT := h
theorem k_bl (h : QT b H) : KBl (.bl b) H QT := ⟨b, rfl, h⟩
theorem t_tr (h : te σ H fun x H' => KTr K x H' QT) : tTr K te σ H QT := h
theorem k_trB (h : QT b H) : KTr K (.bl b) H QT := ⟨b, rfl, h⟩
theorem k_trN (h : QT false H) : KTr K .non H QT := ⟨false, rfl, h⟩
theorem k_trI {i : Int} (h : QT (i != 0) H) : KTr K (.int i) H QT := ⟨_, rfl, h⟩
theorem k_trL {a : Addr} {xs : List V} (hs : SqL K H a xs) (h : QT (!xs.isEmpty) H) : KTr K (.ref a) H QT := ⟨_, .inl ⟨xs, hs, rfl⟩, h⟩
theorem k_trT {a : Addr} {xs : List V} (hs : SqT K H a xs) (h : QT (!xs.isEmpty) H) : KTr K (.ref a) H QT := ⟨_, .inr (.inl ⟨xs, hs, rfl⟩), h⟩
theorem t_and (h : c σ H fun b H1 => if b = true then c' σ H1 QT else QT false H1) : tAnd c c' σ H QT := h
theorem t_or (h : c σ H fun b H1 => if b = true then QT true H1 else c' σ H1 QT) : tOr c c' σ H QT := h
theorem t_not (h : c σ H fun b H1 => QT (!b) H1) : tNot c σ H QT := h
theorem e_andV (h : ta σ H fun x H1 => KBl x H1 fun b H2 => if b = true then tb σ H2 Q else Q (.bl false) H2) : tAndV ta tb σ H Q := h
theorem e_orV (h : ta σ H fun x H1 => KBl x H1 fun b H2 => if b = true then Q (.bl true) H2 else tb σ H2 Q) : tOrV ta tb σ H Q := h
theorem e_notV (h : ta σ H fun x H1 => KBl x H1 fun b H2 => Q (.bl (!b)) H2) : tNotV ta σ H Q := h
theorem e_if (h : c σ H fun b H1 => if b = true then ta σ H1 Q else tb σ H1 Q) : tIf c ta tb σ H Q := h
theorem e_chain {r r' : R2} {tc : TE} (h : ta σ H fun x H1 => tb σ H1 fun y H2 => r x y H2 fun z H3 => KBl z H3 fun k H3 => if k = true then tc σ H3 fun w' H4 => r' y w' H4 Q else Q (.bl false) H3) : tChain r r' ta tb tc σ H Q := h
theorem a_nil (h : QA [] H) : tNil σ H QA := h
theorem a_cons {tr : TA} (h : te σ H fun x H1 => tr σ H1 fun xs H2 => QA (x :: xs) H2) : tCons te tr σ H QA := h
theorem c_b {r : List V → Hp → VK → Prop} {tl : TA} (h : tl σ H fun vs H1 => r vs H1 Q) : tCB r tl σ H Q := h
theorem c_call {sp : Sp} {dvs : List V} {E : XK} {tl : TA} (h : tl σ H fun vs H1 => sp (vs ++ dvs) H1 Q E) : tCall sp dvs E tl σ H Q := h
theorem b_lenS {z : Str} (hz : z.length ≤ sizeLine) (h : Q (.int z.length) H) : rLn K [.str z] H Q := ⟨_, z.length, rfl, ⟨hz, rfl⟩, h⟩
theorem b_lenL {a : Addr} {xs : List V} (hs : SqL K H a xs) (h : Q (.int xs.length) H) : rLn K [.ref a] H Q := ⟨_, xs.length, rfl, .inl ⟨xs, hs, rfl⟩, h⟩
theorem b_lenT {a : Addr} {xs : List V} (hs : SqT K H a xs) (h : Q (.int xs.length) H) : rLn K [.ref a] H Q := ⟨_, xs.length, rfl, .inr ⟨xs, hs, rfl⟩, h⟩
theorem b_int {i : Int} (h : Q (.int i) H) : rInt [.int i] H Q := .inl (.inl ⟨i, rfl, h⟩)
theorem b_intB (h : Q (.int (if b then 1 else 0)) H) : rInt [.bl b] H Q := .inl (.inr ⟨b, rfl, h⟩)
theorem b_intS {z : Str} {n : Int} (e : PySem.intText? z = some n) (hl : z.length ≤ 640) (h : Q (.int n) H) : rInt [.str z] H Q := .inr ⟨z, n, rfl, e, hl, h⟩
theorem b_abs {i : Int} (h : Q (.int (if i < 0 then -i else i)) H) : rAbs [.int i] H Q := ⟨i, rfl, h⟩
theorem b_isi {n : String} {x : V} {tv : Value} (ty : TyX K H x tv) (h : PySem.W.kitOne K tv (.type n) = some b) (q : Q (.bl b) H) : rIsi K [x, .ty n] H Q := ⟨x, .ty n, tv, .type n, b, rfl, .ty n, ty, h, q⟩
theorem e_tup {tl : TA} (h : tl σ H fun xs H1 => NewO xs.length (.tup xs) H1 Q) : tTup tl σ H Q := h
theorem e_lst {tl : TA} (h : tl σ H fun xs H1 => NewO xs.length (.lst xs) H1 Q) : tLst tl σ H Q := h
theorem n_obj {n : Nat} {o : HO} (hz : n ≤ sizeLine) (h : ∀ p H2, H p = none → Same H H2 → H2 p = some o → Q (.ref p) H2) : NewO n o H Q := ⟨hz, new_same h⟩
theorem e_sl {r : V → Option Int → Option Int → Hp → VK → Prop} {tl th : TO} (h : te σ H fun x H1 => tl σ H1 fun l H2 => th σ H2 fun u H3 => r x l u H3 Q) : tSl r te tl th σ H Q := h
theorem p_no {QO : Option Int → Hp → Prop} (h : QO none H) : tNoPart σ H QO := h
theorem p_so {QO : Option Int → Hp → Prop} (h : te σ H fun x H1 => KInt x H1 QO) : tPart te σ H QO := h
theorem k_int {i : Int} {QO : Option Int → Hp → Prop} (h : QO (some i) H) : KInt (.int i) H QO := ⟨i, rfl, h⟩
theorem l_S {z : Str} {lo hi : Option Int} (hz : z.length ≤ sizeLine) (h : Q (.str (cutS z lo hi)) H) : rSl2 K (.str z) lo hi H Q := .inl ⟨z, rfl, hz, h⟩
theorem l_L {a : Addr} {xs : List V} {lo hi : Option Int} (hs : SqL K H a xs) (h : ∀ p H2, H p = none → Same H H2 → H2 p = some (.lst (cutV xs lo hi)) → Q (.ref p) H2) : rSl2 K (.ref a) lo hi H Q := .inr ⟨a, xs, rfl, hs, new_same h⟩
/-- o.m(..), m of a built-in type -/
theorem m_bm {T : String} {r : V → List V → Hp → VK → Prop} {tl : TA} (h : te σ H fun x H1 => tyV K T x H1 ∧ tl σ H1 fun xs H2 => r x xs H2 Q) : tBM K T r te tl σ H Q := h
theorem m_ty {a : Addr} {xs : List V} {P : Prop} (hs : SqL K H a xs) (h : P) : tyV K "list" (.ref a) H ∧ P := ⟨.inl ⟨rfl, xs, hs⟩, h⟩
theorem m_app {a : Addr} {xs : List V} (e : H a = some (.lst xs)) (hz : xs.length < sizeLine) (h : ∀ H2, Chg a H H2 → H2 a = some (.lst (xs ++ [y])) → Q .non H2) : rAppend (.ref a) [y] H Q := ⟨a, xs, y, rfl, rfl, e, hz, h _ chg_upd upd_same⟩
theorem g_sub {to ti : TE} {ts : TSet} {QS : L2.St → Hp → Prop} (h : to σ H fun o H1 => ti σ H1 fun i H2 => ts o i v H2 fun H3 => QS σ H3) : gSub to ti ts v σ H QS := h
theorem st_L {a : Addr} {xs : List V} {k : Int} {j : Nat} {QH : Hp → Prop} (e : H a = some (.lst xs)) (hj : ixN xs.length k = some j) (h : ∀ H2, Chg a H H2 → H2 a = some (.lst (xs.set j v)) → QH H2) : rSetL (.ref a) (.int k) v H QH := ⟨a, xs, k, j, rfl, rfl, e, hj, h _ chg_upd upd_same⟩
theorem m_m1 {r : V → List V → Hp → VK → Prop} (h : te σ H fun x H1 => (∃ a, x = .str a) ∧ ta σ H1 fun y H2 => r x [y] H2 Q) : tM1 r te ta σ H Q := h
theorem m_st {z : Str} {P : Prop} (h : P) : (∃ a, V.str z = .str a) ∧ P := ⟨⟨z, rfl⟩, h⟩
def rJoin (K : PySem.W.Frag) : V → List V → Hp → VK → Prop := fun x xs H Q => ∃ a p, ∃ ys : List Str, x = .str a ∧ xs = [.ref p] ∧ (SqL K H p (ys.map V.str) ∨ SqT K H p (ys.map V.str)) ∧
  (ys.map (·.length)).sum + ys.length * a.length ≤ 16777216 ∧ Q (.str (Txt.join a ys)) H
theorem pe_join2 {X : Cx} {o e : Expr} {to te : TE} {apos pos : Pos} (ho : PE X o to) (he : PE X e te) (hs : starEach [e] X.env = [(false, eval e X.env)] := by rfl) (hbase : attributeBase o "join" X.env (eval o X.env) = eval o X.env := by rfl) (hline : (apos.endLine == pos.line) = true := by rfl) :
    PE X (.Call (.Attribute o "join" apos) [e] [] pos) (tM1 (rJoin X.K) to te) := pe_join ho he hs hbase hline
theorem m_join {z : Str} {a : Addr} {ys : List Str} (hs : SqL K H a (ys.map V.str)) (hz : (ys.map (·.length)).sum + ys.length * z.length ≤ 16777216) (h : Q (.str (Txt.join z ys)) H) : rJoin K (.str z) [.ref a] H Q := ⟨z, a, ys, rfl, rfl, .inl hs, hz, h⟩
/-! ### loops -/
def LoopF (J : It) (g : TG) (tb : TS) (D : Ends) (σ : L2.St) (H : Hp) : Prop := ∃ W : Nat → Nat → L2.St → Hp → Prop, (∃ m, W 0 m σ H) ∧ ∀ i m σ H, W i m σ H →
  (J.stop i H ∧ D.nx σ H) ∨ (J.go i H ∧ ∃ N : L2.St → Hp → Prop, (∀ σ' H', N σ' H' → ∃ m', m' < m ∧ W (i + 1) m' σ' H') ∧ ∀ x H', J.yld i H x H' → g x σ H' fun σ2 H2 => tb { D with nx := N, ct := N, bk := D.nx } σ2 H2)
theorem s_for {wi : TI} (h : wi σ H fun J H1 => LoopF J g t D σ H1) : tFor wi g t D σ H := h
def LoopC (J : It) (g : TG) (tt : TT) (te : TE) (vs : List Nat) (σ : L2.St) (H1 : Hp) (Q : VK) : Prop := ∀ D, H1 D = none → ∃ W : Nat → Nat → Hp → Prop, (∃ m, W 0 m (upd H1 D (.lst []))) ∧ ∀ i m H, W i m H →
  (J.stop i H ∧ Q (.ref D) H) ∨ (J.go i H ∧ ∃ Nx : Hp → Prop, (∀ H', Nx H' → ∃ m', m' < m ∧ W (i + 1) m' H') ∧ ∀ x H', J.yld i H x H' → g x (wipe σ vs) H' fun σ2 H2 => wipe σ2 vs = wipe σ vs ∧ tt σ2 H2 fun b H3 =>
    if b = true then te σ2 H3 fun y H4 => ∃ acc, H4 D = some (.lst acc) ∧ acc.length < sizeLine ∧ Nx (upd H4 D (.lst (acc ++ [y]))) else Nx H3)
theorem e_lc {wi : TI} {tt : TT} {vs : List Nat} (h : wi σ H fun J H1 => LoopC J g tt te vs σ H1 Q) : tLc wi g tt te vs σ H Q := h
theorem t_yes (h : QT true H) : tYes σ H QT := h
theorem w_r1 {tl : TA} {R : It → Hp → Prop} (h : tl σ H fun vs H1 => KR1 vs H1 R) : iRng1 tl σ H R := h
theorem w_r2 {tl : TA} {R : It → Hp → Prop} (h : tl σ H fun vs H1 => KR2 vs H1 R) : iRng2 tl σ H R := h
theorem k_r1 {j : Int} {R : It → Hp → Prop} (h1 : -(2 ^ 62) ≤ j) (h2 : j < 2 ^ 62) (h : R (Itr 0 j.toNat) H) : KR1 [.int j] H R := ⟨j, rfl, h1, h2, h⟩
theorem k_r2 {i j : Int} {R : It → Hp → Prop} (h1 : -(2 ^ 62) ≤ i ∧ i < 2 ^ 62 ∧ -(2 ^ 62) ≤ j ∧ j < 2 ^ 62) (h : R (Itr i (j - i).toNat) H) : KR2 [.int i, .int j] H R := ⟨i, j, rfl, h1, h⟩
theorem w_l {R : It → Hp → Prop} (h : te σ H fun x H1 => KL K x H1 R) : iList K te σ H R := h
theorem k_l {a : Addr} {xs : List V} {R : It → Hp → Prop} (hs : SqL K H a xs) (h : R (Itl K a) H) : KL K (.ref a) H R := ⟨a, rfl, ⟨xs, hs⟩, h⟩
theorem w_t {R : It → Hp → Prop} (h : te σ H fun x H1 => KT K x H1 R) : iTup K te σ H R := h
theorem k_t {a : Addr} {xs : List V} {R : It → Hp → Prop} (hs : SqT K H a xs) (h : R (Itt K a) H) : KT K (.ref a) H R := ⟨a, rfl, ⟨xs, hs⟩, h⟩
theorem f_range {lo : Int} {n : Nat} (Pv : Nat → L2.St → Hp → Prop) (h0 : Pv 0 σ H)
    (hs : ∀ i σ H, i < n → Pv i σ H → g (.int (lo + i)) σ H fun σ2 H2 => t ⟨Pv (i + 1), D.rt, D.nx, Pv (i + 1)⟩ σ2 H2) (hd : ∀ σ H, Pv n σ H → D.nx σ H) : LoopF (Itr lo n) g t D σ H := for_range Pv h0 hs hd
theorem f_list {a : Addr} {xs : List V} (Pv : Nat → L2.St → Hp → Prop) (h0 : Pv 0 σ H) (hl : ∀ i σ H, i ≤ xs.length → Pv i σ H → SqL K H a xs)
    (hs : ∀ i x σ H, xs[i]? = some x → Pv i σ H → g x σ H fun σ2 H2 => t ⟨Pv (i + 1), D.rt, D.nx, Pv (i + 1)⟩ σ2 H2) (hd : ∀ σ H, Pv xs.length σ H → D.nx σ H) : LoopF (Itl K a) g t D σ H := for_list Pv h0 hl hs hd
theorem f_tup {a : Addr} {xs : List V} (Pv : Nat → L2.St → Hp → Prop) (h0 : Pv 0 σ H) (hl : ∀ i σ H, i ≤ xs.length → Pv i σ H → SqT K H a xs)
    (hs : ∀ i x σ H, xs[i]? = some x → Pv i σ H → g x σ H fun σ2 H2 => t ⟨Pv (i + 1), D.rt, D.nx, Pv (i + 1)⟩ σ2 H2) (hd : ∀ σ H, Pv xs.length σ H → D.nx σ H) : LoopF (Itt K a) g t D σ H := for_tup Pv h0 hl hs hd
/-- a text, sign by sign -/
theorem w_s {R : It → Hp → Prop} (h : te σ H fun x H1 => KS x H1 R) : iStr te σ H R := h
theorem k_s {z : Str} {R : It → Hp → Prop} (h : R (Its z) H) : KS (.str z) H R := ⟨z, rfl, h⟩
theorem f_str {z : Str} (Pv : Nat → L2.St → Hp → Prop) (h0 : Pv 0 σ H)
    (hs : ∀ i k σ H, z.cps.toList[i]? = some k → Pv i σ H → g (.str ⟨#[k]⟩) σ H fun σ2 H2 => t ⟨Pv (i + 1), D.rt, D.nx, Pv (i + 1)⟩ σ2 H2) (hd : ∀ σ H, Pv z.cps.toList.length σ H → D.nx σ H) : LoopF (Its z) g t D σ H := by
  refine ⟨fun i m σ H => m = z.cps.toList.length - i ∧ i ≤ z.cps.toList.length ∧ Pv i σ H, ⟨_, rfl, Nat.zero_le _, h0⟩, ?_⟩
  rintro i m σ H ⟨rfl, hi, p⟩
  by_cases hlt : i < z.cps.toList.length
  · refine .inr ⟨show i < z.cps.size by simpa using hlt, Pv (i + 1), fun σ' H' p' => ⟨z.cps.toList.length - (i + 1), by omega, rfl, hlt, p'⟩, fun x H' y => ?_⟩
    obtain ⟨rfl, k, e, rfl⟩ := y
    exact hs i k σ _ (by simpa using e) p
  · have e : i = z.cps.toList.length := by omega
    subst e
    exact .inl ⟨by simp [Its], hd σ H p⟩
theorem c_range {lo : Int} {n : Nat} {vs : List Nat} {tt : TT} (Pv : Addr → Nat → Hp → Prop) (h0 : ∀ D H1, H D = none → Same H H1 → H1 D = some (.lst []) → Pv D 0 H1)
    (hs : ∀ D i H1, i < n → H D = none → Pv D i H1 → g (.int (lo + i)) (wipe σ vs) H1 fun σ2 H2 => wipe σ2 vs = wipe σ vs ∧ tt σ2 H2 fun b H3 =>
      if b = true then te σ2 H3 fun y H4 => COut D y H4 (Pv D (i + 1)) else Pv D (i + 1) H3) (hd : ∀ D H1, H D = none → Pv D n H1 → Q (.ref D) H1) :
    LoopC (Itr lo n) g tt te vs σ H Q := fun D nD => lc_range (Pv D) (h0 D _ nD (same_new nD) upd_same) (fun i H1 hi p => hs D i H1 hi nD p) fun H1 p => hd D H1 nD p
theorem c_list {a : Addr} {xs : List V} {vs : List Nat} {tt : TT} (Pv : Addr → Nat → Hp → Prop) (h0 : ∀ D H1, H D = none → Same H H1 → H1 D = some (.lst []) → Pv D 0 H1) (hl : ∀ D i H1, i ≤ xs.length → H D = none → Pv D i H1 → SqL K H1 a xs)
    (hs : ∀ D i x H1, xs[i]? = some x → H D = none → Pv D i H1 → g x (wipe σ vs) H1 fun σ2 H2 => wipe σ2 vs = wipe σ vs ∧ tt σ2 H2 fun b H3 =>
      if b = true then te σ2 H3 fun y H4 => COut D y H4 (Pv D (i + 1)) else Pv D (i + 1) H3) (hd : ∀ D H1, H D = none → Pv D xs.length H1 → Q (.ref D) H1) :
    LoopC (Itl K a) g tt te vs σ H Q := fun D nD => lc_list (Pv D) (h0 D _ nD (same_new nD) upd_same) (fun i H1 hi p => hl D i H1 hi nD p) (fun i x H1 hi p => hs D i x H1 hi nD p) fun H1 p => hd D H1 nD p
theorem c_out {D : Addr} {acc : List V} {N : Hp → Prop} (e : H D = some (.lst acc)) (hz : acc.length < sizeLine) (h : ∀ H2, Chg D H H2 → H2 D = some (.lst (acc ++ [y])) → N H2) : COut D y H N := ⟨acc, e, hz, h _ chg_upd upd_same⟩
theorem s_while (W : Nat → L2.St → Hp → Prop) (m0 : Nat) (h0 : W m0 σ H) (hs : ∀ m σ H, W m σ H → c σ H fun b H1 => if b = true then KWh W m t D σ H1 else D.nx σ H1) : tWhile c t D σ H := ⟨W, ⟨m0, h0⟩, hs⟩
theorem k_while {W : Nat → L2.St → Hp → Prop} {m : Nat} (h : t ⟨fun σ' H' => ∃ m', m' < m ∧ W m' σ' H', D.rt, D.nx, fun σ' H' => ∃ m', m' < m ∧ W m' σ' H'⟩ σ H) : KWh W m t D σ H := ⟨_, fun _ _ q => q, h⟩
end
/-! ### a def of the top -/
structure DefOk (K : PySem.W.Frag) (mg : Str → Option Value) (x : Str) (st : Stmt) : Prop where
  ex : ∃ f fd, FunD K x x (defArgs st) (defBody st) (defScope st) [] [] f fd ∧ mg x = some (.ref f)
theorem cal_of {P : Program} {w : World} {K : PySem.W.Frag} {mg : Str → Option Value} {base : Heap} {x : Str} {st : Stmt} {N ps : List Str} {k : Nat} {sp : Sp} (F : DefOk K mg x st) (S : FnScope N ps (defScope st))
    (hb : ∀ f fd, FunD K x x (defArgs st) (defBody st) (defScope st) [] [] f fd → Binds K fd ps []) (len : ∀ vs H Q E, sp vs H Q E → vs.length = ps.length)
    (body : ∀ (f : Addr) (cdv : Value) (A : Around) (outer : List Env) (s : Shared) (H : Hp) (vs : List V) (Q : VK) (E : XK), Room k (A.deeper (envOfC x (defScope st) s.heap.objs.size f cdv)) → sp vs H Q E →
      ∃ t, PSs (cxOf CX0 P w K mg base N x (defScope st) f cdv A outer s H E).nox (defBody st) t ∧ t { nx := fun _ H' => Q .non H', rt := Q } (start N vs) H) : C8.Cal P w K mg base (k + 1) x sp [] := by
  obtain ⟨f, fd, F, hm⟩ := F.ex
  refine ⟨f, fd, ps, [], F.ok S len fun cdv A outer s H vs Q E hr h => ?_, hm, F.kp, hb f fd F, .nil⟩
  obtain ⟨t, h1, h2⟩ := body f cdv A outer s H vs Q E hr h
  exact ⟨t, PSs.nox h1, h2⟩
/-! ### calls without arguments -/
section
variable {X : Cx} {k j : Nat} {x : Str} {sp : Sp} {dvs : List V} {p pos : Pos}
theorem pe_c0 (c : C8.Cal X.prog X.w X.K X.mg X.base k x sp dvs) (hr : Room j X.A) (hk : k ≤ j) (hg : Gl X x) (hdb : (x == ("__debug__" : Str)) = false := by decide) :
    PE X (.Call (.Name x p) [] [] pos) (tCall sp dvs C8.E0 tNil) := by
  obtain ⟨f, fd, ps, ds, F, hm, kp, b, d⟩ := c.ex
  exact pe_call0 F (hr.mono hk) hg hm kp b d pass0 hdb
end
/-! ### a law's own hand of draws -/
def HandAt (H : Hp) (h d : Addr) : Prop := ∃ (n : Int) (ds : List Int), H h = some (.lst [.ref d, .int n]) ∧ 0 ≤ n ∧ H d = some (.lst (ds.map V.int))
/-- a draw below many -/
def spTake : Sp := fun vs H Q _ => ∃ (h d : Addr) (m : Int), vs = [.ref h, .int m] ∧ HandAt H h d ∧ 0 < m ∧ ∀ r H', 0 ≤ r → r < m → Chg h H H' → HandAt H' h d → Q (.int r) H'
theorem HandAt.ne {H : Hp} {h d : Addr} (x : HandAt H h d) : d ≠ h := by
  obtain ⟨n, ds, h1, h2, h3⟩ := x
  intro e
  subst e
  rw [h1] at h3
  cases ds <;> cases h3
theorem HandAt.same {H H' : Hp} {h d : Addr} (s : Same H H') (x : HandAt H h d) : HandAt H' h d := by
  obtain ⟨n, ds, h1, h2, h3⟩ := x
  exact ⟨n, ds, s _ _ h1, h2, s _ _ h3⟩
theorem HandAt.chg {H H' : Hp} {h d D : Addr} (c : Chg D H H') (x : HandAt H h d) (n1 : h ≠ D) (n2 : d ≠ D) : HandAt H' h d := by
  obtain ⟨n, ds, h1, h2, h3⟩ := x
  exact ⟨n, ds, c.at h1 n1, h2, c.at h3 n2⟩
theorem HandAt.new {H : Hp} {h d D : Addr} (x : HandAt H h d) (n : H D = none) : h ≠ D ∧ d ≠ D := by
  obtain ⟨_, ds, h1, h2, h3⟩ := x
  exact ⟨ne_of_none h1 n, ne_of_none h3 n⟩
/-- all but h is kept -/
def Keep (h : Addr) (H H' : Hp) : Prop := ∀ b o, b ≠ h → H b = some o → H' b = some o
theorem Keep.refl (h : Addr) (H : Hp) : Keep h H H := fun _ _ _ e => e
theorem Keep.trans {h : Addr} {H H1 H2 : Hp} (a : Keep h H H1) (b : Keep h H1 H2) : Keep h H H2 := fun c o n e => b c o n (a c o n e)
theorem Chg.keep {h : Addr} {H H' : Hp} (c : Chg h H H') : Keep h H H' := fun b o n e => c.at e n
theorem _root_.L2.Same.keep {h : Addr} {H H' : Hp} (c : Same H H') : Keep h H H' := fun b o _ e => c b o e
theorem Keep.chg {h D : Addr} {H H1 H2 : Hp} (k : Keep h H H1) (c : Chg D H1 H2) (n : H D = none) : Keep h H H2 := fun b o m e => c.at (k b o m e) (ne_of_none e n)
theorem Keep.free {h D : Addr} {H H1 : Hp} (k : Keep h H H1) (n : H1 D = none) (m : D ≠ h) : H D = none := by
  cases q : H D with
  | none => rfl
  | some o =>
    rw [k D o m q] at n
    cases n
theorem Keep.at {h b : Addr} {H H' : Hp} {o : HO} (c : Keep h H H') (e : H b = some o) (n : b ≠ h) : H' b = some o := c b o n e
theorem atI_of {α : Type} {xs : List α} {i : Int} {j : Nat} {v : α} (e : i = (j : Int)) (h : xs[j]? = some v) : atI xs i = some v := by
  subst e
  exact atI_nat h
/-! ### texts -/
theorem joinL_nil : ∀ ps : List (List Nat), TL.joinL [] ps = ps.flatten
  | [] => rfl
  | [p] => by simp [TL.joinL]
  | p :: q :: r => by
    show p ++ ([] ++ TL.joinL [] (q :: r)) = _
    rw [joinL_nil (q :: r)]
    simp
theorem join_empty (ys : List Str) : (Txt.join (Str.ofString "") ys).cps.toList = (ys.map fun y => y.cps.toList).flatten := by
  rw [TL.join_eq]
  have h := TL.tl_join (Str.ofString "") ys
  have e : TL.tl (Str.ofString "") = [] := by decide +kernel
  rw [e, joinL_nil] at h
  exact h
theorem str_len (z : Str) : z.length = z.cps.toList.length := by simp [Str.length]
theorem str_ext {x y : Str} (h : x.cps.toList = y.cps.toList) : x = y := by
  obtain ⟨a⟩ := x
  obtain ⟨b⟩ := y
  have e : a = b := Array.ext' h
  rw [e]
theorem app_len (x y : Str) : (x ++ y).length = x.length + y.length := by
  show (x.cps ++ y.cps).size = x.cps.size + y.cps.size
  simp
theorem app_tl (x y : Str) : (x ++ y).cps.toList = x.cps.toList ++ y.cps.toList := by
  show (x.cps ++ y.cps).toList = x.cps.toList ++ y.cps.toList
  simp
theorem repS_len (z : Str) (k : Int) : (repS z k).length = k.toNat * z.length := by
  unfold repS
  simp [Str.length, List.length_flatten, List.map_replicate, List.sum_replicate_nat]
theorem cutS_nat (z : Str) {i j : Nat} (hi : i ≤ z.length) (hj : j ≤ z.length) : (cutS z (some (i : Int)) (some (j : Int))).cps.toList = (z.cps.toList.drop i).take (j - i) := by
  unfold cutS
  rw [HT.sIx_nat, HT.sIx_nat, Nat.min_eq_left hi, Nat.min_eq_left hj]
theorem cutS_len2 (z : Str) (i : Nat) : (cutS z (some (i : Int)) (some ((i + 2 : Nat) : Int))).length = min (i + 2) z.length - min i z.length := by
  unfold cutS
  rw [HT.sIx_nat, HT.sIx_nat]
  show ((((z.cps.toList.drop (min i z.length)).take (min (i + 2) z.length - min i z.length)).toArray).size) = _
  rw [List.size_toArray, List.length_take, List.length_drop, Array.length_toList]
  show min _ (z.length - _) = _
  omega
/-- the place behind the longest run from i of signs in p -/
def runEnd (cs p : List Nat) (i : Nat) : Nat := i + ((cs.drop i).takeWhile fun c => decide (c ∈ p)).length
theorem runEnd_out {cs p : List Nat} {i : Nat} (h : cs.length ≤ i) : runEnd cs p i = i := by
  unfold runEnd
  rw [List.drop_of_length_le h]
  rfl
theorem runEnd_no {cs p : List Nat} {i c : Nat} (e : cs[i]? = some c) (h : c ∉ p) : runEnd cs p i = i := by
  unfold runEnd
  have hi : i < cs.length := (List.getElem?_eq_some_iff.mp e).1
  rw [List.drop_eq_getElem_cons hi, (List.getElem?_eq_some_iff.mp e).2, List.takeWhile_cons_of_neg (by simpa using h)]
  rfl
theorem runEnd_yes {cs p : List Nat} {i c : Nat} (e : cs[i]? = some c) (h : c ∈ p) : runEnd cs p i = runEnd cs p (i + 1) := by
  unfold runEnd
  have hi : i < cs.length := (List.getElem?_eq_some_iff.mp e).1
  rw [List.drop_eq_getElem_cons hi, (List.getElem?_eq_some_iff.mp e).2, List.takeWhile_cons_of_pos (by simpa using h), List.length_cons]
  omega
theorem runEnd_ge (cs p : List Nat) (i : Nat) : i ≤ runEnd cs p i := Nat.le_add_right _ _
theorem runEnd_le {cs p : List Nat} {i : Nat} (h : i ≤ cs.length) : runEnd cs p i ≤ cs.length := by
  unfold runEnd
  have h1 := (List.takeWhile_prefix (fun c => decide (c ∈ p)) (l := cs.drop i)).length_le
  rw [List.length_drop] at h1
  omega
theorem runEnd_all {cs p : List Nat} : runEnd cs p 0 = cs.length ↔ ∀ c ∈ cs, c ∈ p := by
  unfold runEnd
  rw [List.drop_zero, Nat.zero_add]
  induction cs with
  | nil => simp
  | cons a r ih =>
    by_cases h : a ∈ p
    · rw [List.takeWhile_cons_of_pos (by simpa using h), List.length_cons, List.length_cons, Nat.add_right_cancel_iff, ih]
      simp [h]
    · rw [List.takeWhile_cons_of_neg (by simpa using h)]
      simp [h]
theorem atI_cps {z : Str} {i : Nat} (h : i < z.length) : ∃ c, z.cps.toList[i]? = some c ∧ atI z.cps.toList (i : Int) = some c := by
  have h1 : i < z.cps.toList.length := by rw [← str_len]; exact h
  exact ⟨_, List.getElem?_eq_getElem h1, atI_nat (List.getElem?_eq_getElem h1)⟩
theorem small1000' {n : Nat} (h : n ≤ 100000) : n < sizeLine := Nat.lt_of_le_of_lt h (by decide)
theorem ixN_nat {n j : Nat} (h : j < n) : ixN n (j : Int) = some j := by
  unfold ixN
  rw [if_pos (by omega), if_pos (by omega)]
  simp
/-- one sign, compared -/
theorem sign_eq {c k : Nat} {y : Str} (hy : y = ⟨#[k]⟩) : decide (V.str ⟨#[c]⟩ = V.str y) = true ↔ c = k := by
  rw [decide_eq_true_iff, hy]
  constructor
  · intro e
    injection e with e
    injection e with e
    have e2 := congrArg Array.toList e
    simpa using e2
  · intro e
    rw [e]
theorem snoc_int {H : Hp} {d : Addr} {ds : List Int} {v : Int} (e : H d = some (.lst (ds.map V.int ++ [.int v]))) : ∃ ds' : List Int, H d = some (.lst (ds'.map V.int)) ∧ ds'.length = ds.length + 1 :=
  ⟨ds ++ [v], by rw [e, List.map_append]; rfl, by rw [List.length_append]; rfl⟩
/-- the items are texts of at most m signs -/
def strsB (m : Nat) (xs : List V) : Bool := xs.all fun x => match x with | .str y => decide (y.length ≤ m) | _ => false
theorem item_str (xs : List V) {m : Nat} (h : strsB m xs = true) {j : Nat} (hj : j < xs.length) : ∃ y : Str, xs[j]? = some (.str y) ∧ y.length ≤ m := by
  have h1 := List.all_eq_true.mp h xs[j] (List.getElem_mem hj)
  cases e : xs[j] with
  | str y =>
    rw [e] at h1
    exact ⟨y, by rw [List.getElem?_eq_getElem hj, e], of_decide_eq_true h1⟩
  | _ =>
    rw [e] at h1
    cases h1
theorem fn_of2 {P : Program} {w : World} {K : PySem.W.Frag} {mg : Str → Option Value} {base : Heap} {x : Str} {st : Stmt} {N ps : List Str} {k : Nat} {sp : Sp} {f : Addr} {fd : FuncData} (F : FunD K x x (defArgs st) (defBody st) (defScope st) [] [] f fd) (S : FnScope N ps (defScope st))
    (len : ∀ vs H Q E, sp vs H Q E → vs.length = ps.length)
    (body : ∀ (f : Addr) (cdv : Value) (A : Around) (outer : List Env) (s : Shared) (H : Hp) (vs : List V) (Q : VK) (E : XK), Room k (A.deeper (envOfC x (defScope st) s.heap.objs.size f cdv)) → sp vs H Q E →
      ∃ t, PSs (cxOf CX0 P w K mg base N x (defScope st) f cdv A outer s H E).nox (defBody st) t ∧ t { nx := fun _ H' => Q .non H', rt := Q } (start N vs) H) : FnOk P w K mg base CX0 (k + 1) f fd ps sp :=
  F.ok S len fun cdv A outer s H vs Q E hr h => by
    obtain ⟨t, h1, h2⟩ := body f cdv A outer s H vs Q E hr h
    exact ⟨t, PSs.nox h1, h2⟩
theorem lz {n : Nat} (h : n ≤ 1000) : n ≤ sizeLine := Nat.le_of_lt (small1000 h)
/-! ### more steps -/
def rStrI : List V → Hp → VK → Prop := fun xs H Q => ∃ i, xs = [.int i] ∧ i.natAbs.log2 < 1920 ∧ Q (.str (toString i)) H
theorem call_strI {X : Cx} : CallR X (.type "str") rStrI := call_str_int
def rLst (K : PySem.W.Frag) : List V → Hp → VK → Prop := fun xs H Q => ∃ p ys, xs = [.ref p] ∧ (SqL K H p ys ∨ SqT K H p ys) ∧ ∀ l, H l = none → Q (.ref l) (upd H l (.lst ys))
theorem call_lst {X : Cx} : CallR X (.type "list") (rLst X.K) := call_list_of
def rTpl (K : PySem.W.Frag) : List V → Hp → VK → Prop := fun xs H Q => ∃ p ys, xs = [.ref p] ∧ SqL K H p ys ∧ ∀ l, H l = none → Q (.ref l) (upd H l (.tup ys))
theorem log_small {n : Nat} (h : n < 10 ^ 40) : n.log2 < 1920 := by
  by_cases h0 : n = 0
  · subst h0
    decide
  · rw [Nat.log2_lt h0]
    exact Nat.lt_of_lt_of_le h (by decide +kernel)
def tJoined (ts : List TE) : TE := fun σ H Q => tJs ts Str.empty σ H fun out H1 => Q (.str out) H1
theorem pe_joined2 {X : Cx} {v1 v2 : Expr} {rest : List Expr} {ts : List TE} {pos : Pos} (h : PJ X (v1 :: v2 :: rest) ts) : PE X (.JoinedStr (v1 :: v2 :: rest) pos) (tJoined ts) := pe_joined h
def KJ (x : V) (acc : Str) (ts : List TE) (σ : L2.St) (H : Hp) (Q : Str → Hp → Prop) : Prop := ∃ y : Str, x = .str y ∧ (acc ++ y).length ≤ sizeLine ∧ tJs ts (acc ++ y) σ H Q
def KF (x : V) (H : Hp) (Q : VK) : Prop := (∃ y : Str, x = .str y ∧ y.length ≤ sizeLine ∧ Q (.str y) H) ∨ ∃ i : Int, x = .int i ∧ i.natAbs.log2 < 1920 ∧ Q (.str (toString i)) H
section
variable {K : PySem.W.Frag} {σ : L2.St} {H : Hp} {Q : VK} {QS : L2.St → Hp → Prop} {QJ : Str → Hp → Prop} {te : TE} {ts : List TE} {v : V} {g : TG}
theorem g_tup {u : TGs} {a : Addr} {xs : List V} {n : Nat} (hs : SqT K H a xs) (hl : xs.length = n) (h : u xs σ H QS) : gTup K n u (.ref a) σ H QS := ⟨a, xs, rfl, hs, hl, h⟩
theorem g_cons {u : TGs} {r : List V} (h : g v σ H fun σ' H' => u r σ' H' QS) : gCons g u (v :: r) σ H QS := ⟨v, r, rfl, h⟩
theorem g_nil (h : QS σ H) : gNil [] σ H QS := ⟨rfl, h⟩
theorem b_strI {i : Int} (hz : i.natAbs < 10 ^ 40) (h : Q (.str (toString i)) H) : rStrI [.int i] H Q := ⟨i, rfl, log_small hz, h⟩
theorem b_lst {a : Addr} {xs : List V} (hs : SqL K H a xs) (h : ∀ p H2, H p = none → Same H H2 → H2 p = some (.lst xs) → Q (.ref p) H2) : rLst K [.ref a] H Q := ⟨a, xs, rfl, .inl hs, new_same h⟩
theorem e_joined (h : tJs ts Str.empty σ H fun out H1 => Q (.str out) H1) : tJoined ts σ H Q := h
theorem j_nil {acc : Str} (h : QJ acc H) : tJs [] acc σ H QJ := h
theorem j_cons {acc : Str} (h : te σ H fun x H1 => KJ x acc ts σ H1 QJ) : tJs (te :: ts) acc σ H QJ := h
theorem k_j {acc y : Str} (hz : (acc ++ y).length ≤ sizeLine) (h : tJs ts (acc ++ y) σ H QJ) : KJ (.str y) acc ts σ H QJ := ⟨y, rfl, hz, h⟩
theorem e_fmt (h : te σ H fun x H1 => KF x H1 Q) : tFmt te σ H Q := h
theorem k_fS {y : Str} (hz : y.length ≤ sizeLine) (h : Q (.str y) H) : KF (.str y) H Q := .inl ⟨y, rfl, hz, h⟩
theorem k_fI {i : Int} (hz : i.natAbs < 10 ^ 40) (h : Q (.str (toString i)) H) : KF (.int i) H Q := .inr ⟨i, rfl, log_small hz, h⟩
end
/-! ### data of tuples -/
mutual
inductive Tp (H : Hp) : V → PyData → Prop
  | non : Tp H .non .none
  | bl (b : Bool) : Tp H (.bl b) (.bool b)
  | int (i : Int) : Tp H (.int i) (.int i)
  | str (x : Str) : Tp H (.str x) (.str x)
  | tup {a : Addr} {xs : List V} {ds : List PyData} : H a = some (.tup xs) → TpAll H xs ds → Tp H (.ref a) (.tuple ds)
inductive TpAll (H : Hp) : List V → List PyData → Prop
  | nil : TpAll H [] []
  | cons {v : V} {vs : List V} {d : PyData} {ds : List PyData} : Tp H v d → TpAll H vs ds → TpAll H (v :: vs) (d :: ds)
end
/-- the tuples stay -/
def TK (H H' : Hp) : Prop := ∀ a xs, H a = some (.tup xs) → H' a = some (.tup xs)
theorem TK.refl (H : Hp) : TK H H := fun _ _ e => e
theorem TK.trans {H H1 H2 : Hp} (a : TK H H1) (b : TK H1 H2) : TK H H2 := fun c xs e => b c xs (a c xs e)
theorem _root_.L2.Same.tk {H H' : Hp} (s : Same H H') : TK H H' := fun a xs e => s a _ e
theorem Chg.tk {l : Addr} {H H' : Hp} {ys : List V} (c : Chg l H H') (e : H l = some (.lst ys)) : TK H H' := fun a xs h => c.at h (ne_of h e (by intro z; cases z))
theorem Keep.tk {h : Addr} {H H' : Hp} {ys : List V} (c : Keep h H H') (e : H h = some (.lst ys)) : TK H H' := fun a xs q => c.at q (ne_of q e (by intro z; cases z))
theorem HandAt.keep_tk {h d : Addr} {H H' : Hp} (x : HandAt H h d) (c : Keep h H H') : TK H H' := by
  obtain ⟨n, ds, h1, _, _⟩ := x
  exact c.tk h1
theorem HandAt.chg_tk {h d : Addr} {H H' : Hp} (x : HandAt H h d) (c : Chg h H H') : TK H H' := x.keep_tk c.keep
mutual
theorem Tp.tk {H H' : Hp} (k : TK H H') : ∀ {d : PyData} {v : V}, Tp H v d → Tp H' v d
  | .none, _, h => by cases h; exact .non
  | .bool b, _, h => by cases h; exact .bl b
  | .int i, _, h => by cases h; exact .int i
  | .str x, _, h => by cases h; exact .str x
  | .tuple ds, _, h => by
    cases h with
    | tup e r => exact .tup (k _ _ e) (TpAll.tk k r)
  | .list _, _, h => by cases h
  | .dict _, _, h => by cases h
theorem TpAll.tk {H H' : Hp} (k : TK H H') : ∀ {ds : List PyData} {vs : List V}, TpAll H vs ds → TpAll H' vs ds
  | [], _, h => by cases h; exact .nil
  | d :: ds, _, h => by
    cases h with
    | cons h1 h2 => exact .cons (Tp.tk k h1) (TpAll.tk k h2)
end
mutual
theorem Tp.dp {K : PySem.W.Frag} {H : Hp} : ∀ {d : PyData} {v : V}, Tp H v d → Dp K H v d
  | .none, _, h => by cases h; exact .non
  | .bool b, _, h => by cases h; exact .bl b
  | .int i, _, h => by cases h; exact .int i
  | .str x, _, h => by cases h; exact .str x
  | .tuple ds, _, h => by
    cases h with
    | tup e r => exact .tup (tup_of e) (TpAll.dp r)
  | .list _, _, h => by cases h
  | .dict _, _, h => by cases h
theorem TpAll.dp {K : PySem.W.Frag} {H : Hp} : ∀ {ds : List PyData} {vs : List V}, TpAll H vs ds → DpAll K H vs ds
  | [], _, h => by cases h; exact .nil
  | d :: ds, _, h => by
    cases h with
    | cons h1 h2 => exact .cons (Tp.dp h1) (TpAll.dp h2)
end
theorem TpAll.get {H : Hp} : ∀ {vs : List V} {ds : List PyData} {i : Nat} {d : PyData}, TpAll H vs ds → ds[i]? = some d → ∃ v, vs[i]? = some v ∧ Tp H v d
  | _, _, _, _, .nil, h => by cases h
  | _, _, 0, _, .cons h1 _, h => by
    cases h
    exact ⟨_, rfl, h1⟩
  | _, _, i + 1, _, .cons _ h2, h => by
    obtain ⟨v, e, q⟩ := TpAll.get h2 (i := i) h
    exact ⟨v, e, q⟩
theorem TpAll.length {H : Hp} : ∀ {vs : List V} {ds : List PyData}, TpAll H vs ds → vs.length = ds.length
  | _, _, .nil => rfl
  | _, _, .cons _ h => by rw [List.length_cons, List.length_cons, h.length]
/-- a def that is never called so -/
theorem cal_never {P : Program} {w : World} {K : PySem.W.Frag} {mg : Str → Option Value} {base : Heap} {x : Str} {st : Stmt} {ps : List Str} {k : Nat} {sp : Sp} (F : DefOk K mg x st)
    (hb : ∀ f fd, FunD K x x (defArgs st) (defBody st) (defScope st) [] [] f fd → Binds K fd ps []) (no : ∀ vs H Q E, ¬ sp vs H Q E) : C8.Cal P w K mg base k x sp [] := by
  obtain ⟨f, fd, F, hm⟩ := F.ex
  exact ⟨f, fd, ps, [], ⟨fun vs H Q E h => absurd h (no _ _ _ _), fun A outer s H args us vs Q E hr he hb hv h => absurd h (no _ _ _ _)⟩, hm, F.kp, hb f fd F, .nil⟩
end Wy
open Wy
namespace W6
open PySem PySem.Spec PyProof.Rows L2 Wy
theorem uu {a c : Nat} (h : a + 64 < c) : a + 1 < c := by omega
/-! ### a table of the top: texts to tuples -/
def rKd (K : PySem.W.Frag) (d : Addr) : R2 := fun x y H Q => ∃ (z : Str) (u0 : Value) (v0 : V), x = .ref d ∧ y = .str z ∧ PySem.W.nsIn K d z = some (some u0) ∧ RelV v0 u0 ∧ Q v0 H
theorem pe_kd {X : Cx} {d : Addr} {es : Array DictEntry} {n : Nat} {o i : Expr} {pos : Pos} {td ty : TE} (D : KDict X.K X.w d es n) (ho : PE X o td) (hi : PE X i ty) (hs : NoSl i) : PE X (.Subscript o i pos) (tOp (rKd X.K d) td ty) := by
  refine ⟨fun pins s σ H Q I h => ?_⟩
  refine subD_of PySem.F.slot_dict_getitem.lookup hs (thn (ho.run pins s σ H _ I h) fun u s1 ⟨x, H1, I1, rx, q1⟩ => thn (hi.run pins s1 σ H1 _ I1 q1) fun iv s2 ⟨y, H2, I2, ry, q2⟩ => ?_)
  have q3 := q2
  obtain ⟨z, u0, v0, ex, ey, e, r, q⟩ := q2
  subst ex
  have ru : u = Value.ref d := rx
  subst ru
  exact ⟨kd_type D I2, op_item_kd D pins s2 σ H2 (.ref d) y _ iv Q I2 rfl ry q3⟩
def tupAt (K : PySem.W.Frag) (o : Option Obj) (vs : List V) : Bool := match o with
  | some ⟨.type c, none, .seq its _, _⟩ => decide (c = "tuple") && (decide (its.size ≤ sizeLine) && He.relAll vs its.toList)
  | _ => false
def keyB (K : PySem.W.Frag) (d : Addr) (z : Str) (vs : List V) : Bool := match PySem.W.nsIn K d z with
  | some (some (.ref t)) => tupAt K (K.lookup t) vs
  | _ => false
theorem tupAt_ok {K : PySem.W.Frag} {t : Addr} {vs : List V} (h : tupAt K (K.lookup t) vs = true) (H : Hp) : SqT K H t vs := by
  unfold tupAt at h
  split at h
  · rename_i c its n sl e
    obtain ⟨h1, h2⟩ := He.ba h
    obtain ⟨h3, h4⟩ := He.ba h2
    exact .inr ⟨_, its, n, e, congrArg Value.type (of_decide_eq_true h1), rfl, of_decide_eq_true h3, He.relAll_ok h4⟩
  · cases h
theorem keyB_ok {K : PySem.W.Frag} {d : Addr} {z : Str} {vs : List V} (h : keyB K d z vs = true) : ∃ t, PySem.W.nsIn K d z = some (some (.ref t)) ∧ ∀ H, SqT K H t vs := by
  unfold keyB at h
  split at h
  · rename_i t e
    exact ⟨t, e, fun H => tupAt_ok h H⟩
  · cases h
theorem o_kd {K : PySem.W.Frag} {H : Hp} {Q : VK} {d t : Addr} {z : Str} (e : PySem.W.nsIn K d z = some (some (.ref t))) (q : Q (.ref t) H) : rKd K d (.ref d) (.str z) H Q := ⟨z, _, .ref t, rfl, rfl, e, rfl, q⟩
def rTup (K : PySem.W.Frag) : List V → Hp → VK → Prop := fun xs H Q => ∃ p ys, xs = [.ref p] ∧ ((SqL K H p ys ∧ ∀ l, H l = none → Q (.ref l) (upd H l (.tup ys))) ∨ (SqT K H p ys ∧ Q (.ref p) H))
theorem call_tup2 {X : Cx} : CallR X (.type "tuple") (rTup X.K) := call_tuple_of
theorem b_tup {K : PySem.W.Frag} {H : Hp} {Q : VK} {a : Addr} {xs : List V} (hs : SqL K H a xs) (h : ∀ p H2, H p = none → Same H H2 → H2 p = some (.tup xs) → Q (.ref p) H2) : rTup K [.ref a] H Q := ⟨a, xs, rfl, .inl ⟨hs, new_same h⟩⟩
end W6
namespace WD
open PySem PySem.Spec PyProof.Rows L2 Wy
theorem uu {a c : Nat} (h : a + 64 < c) : a + 1 < c := by omega
/-! ### dicts of texts -/
def rLnD : List V → Hp → VK → Prop := fun xs H Q => ∃ a kvs, xs = [.ref a] ∧ H a = some (.dK kvs) ∧ Q (.int (kvs.length : Nat)) H
theorem call_lenD {X : Cx} : CallR X (.builtin "len") rLnD := by
  intro pins s σ H xs us Q I r h
  obtain ⟨p, kvs, rfl, hk, q⟩ := h
  obtain ⟨u, eu, rx⟩ := vals1 r
  subst eu
  obtain rfl : u = Value.ref p := rx
  exact d_len I (.inl hk) fun t s' I' => ⟨.int (kvs.length : Nat), H, I', ⟨t, rfl⟩, q⟩
section
variable {K : PySem.W.Frag} {σ : L2.St} {H : Hp} {Q : VK} {td ty tv : TE} {D : Ends}
def KD (x y : V) (H : Hp) (Q : VK) : Prop := ∃ a v, x = .ref a ∧ DGet H a y (some v) ∧ Q v H
def KP (v x y : V) (σ : L2.St) (H : Hp) (N : L2.St → Hp → Prop) : Prop := ∃ a H4, x = .ref a ∧ DPut H a y v H4 ∧ N σ H4
theorem e_dnew (h : ∀ p H2, H p = none → Same H H2 → H2 p = some (.dK []) → Q (.ref p) H2) : tDNewK σ H Q := new_same h
theorem e_dget (h : td σ H fun x H1 => ty σ H1 fun y H2 => KD x y H2 Q) : tDGet td ty σ H Q := h
theorem k_d {a : Addr} {kvs : List (Key × V)} {n : Str} {v : V} (e : H a = some (.dK kvs)) (g : valV kvs (.inr n) = some v) (h : Q v H) : KD (.ref a) (.str n) H Q :=
  ⟨a, v, rfl, g ▸ DGet.k (k := .inr n) e, h⟩
theorem s_dput (h : tv σ H fun v H1 => td σ H1 fun x H2 => ty σ H2 fun y H3 => KP v x y σ H3 D.nx) : sDPut td ty tv D σ H := h
theorem k_p {a : Addr} {kvs : List (Key × V)} {n : Str} {v : V} {N : L2.St → Hp → Prop} (e : H a = some (.dK kvs)) (hl : kvs.length < sizeLine) (h : ∀ H2, Chg a H H2 → H2 a = some (.dK (putK kvs (.inr n) v)) → N σ H2) :
    KP v (.ref a) (.str n) σ H N := ⟨a, _, rfl, DPut.k (k := .inr n) e hl, h _ chg_upd upd_same⟩
theorem b_lenD {a : Addr} {kvs : List (Key × V)} (e : H a = some (.dK kvs)) (h : Q (.int (kvs.length : Nat)) H) : rLnD [.ref a] H Q := ⟨a, kvs, rfl, e, h⟩
theorem b_lstD {a : Addr} {kvs : List (Key × V)} (e : H a = some (.dK kvs)) (h : ∀ p H2, H p = none → Same H H2 → H2 p = some (.lst (kvs.map fun kv => kV kv.1)) → Q (.ref p) H2) : rListD [.ref a] H Q := ⟨a, kvs, rfl, e, new_same h⟩
def rTup (K : PySem.W.Frag) : List V → Hp → VK → Prop := fun xs H Q => ∃ p ys, xs = [.ref p] ∧ ((SqL K H p ys ∧ ∀ l, H l = none → Q (.ref l) (upd H l (.tup ys))) ∨ (SqT K H p ys ∧ Q (.ref p) H))
theorem call_tup2 {X : Cx} : CallR X (.type "tuple") (rTup X.K) := call_tuple_of
theorem b_tup {a : Addr} {xs : List V} (hs : SqL K H a xs) (h : ∀ p H2, H p = none → Same H H2 → H2 p = some (.tup xs) → Q (.ref p) H2) : rTup K [.ref a] H Q := ⟨a, xs, rfl, .inl ⟨hs, new_same h⟩⟩
theorem m_idx {a : Addr} {ys : List V} {y : V} {j : Nat} {z : V} (hs : SqL K H a ys) (f1 : flatV y = true) (f2 : ys.all flatV = true) (g : ys[j]? = some z) (e : eqV z y = true)
    (no : ∀ (m : Nat) (z' : V), m < j → ys[m]? = some z' → eqV z' y = false) (h : Q (.int (j : Nat)) H) : rIndex K (.ref a) [y] H Q := ⟨a, ys, y, j, z, rfl, rfl, hs, f1, f2, g, e, no, h⟩
end
/-- the names with their values, as far as there are values -/
def kv (ns : List Str) (vs : List V) : List (Key × V) := (ns.zip vs).map fun p => (.inr p.1, p.2)
theorem kv_len {ns : List Str} {vs : List V} (h : vs.length ≤ ns.length) : (kv ns vs).length = vs.length := by
  unfold kv
  rw [List.length_map, List.length_zip]
  omega
theorem kv_get : ∀ {ns : List Str} {vs : List V} {j : Nat} {n : Str} {v : V}, ns.Nodup → ns[j]? = some n → vs[j]? = some v → valV (kv ns vs) (.inr n) = some v
  | [], _, _, _, _, _, h, _ => by cases h
  | _ :: _, [], _, _, _, _, _, h => by cases h
  | m :: ns, u :: vs, 0, n, v, _, h1, h2 => by
    cases h1
    cases h2
    exact valV_pos (p := (Sum.inr m, u)) rfl
  | m :: ns, u :: vs, j + 1, n, v, hd, h1, h2 => by
    have h1 : ns[j]? = some n := h1
    have h2 : vs[j]? = some v := h2
    have hd := List.nodup_cons.mp hd
    have ne : ¬ (Sum.inr m : Key) = Sum.inr n := fun e => hd.1 (by
      have e2 : m = n := Sum.inr.inj e
      rw [e2]
      exact List.mem_of_getElem? h1)
    exact (valV_neg (p := (Sum.inr m, u)) ne).trans (kv_get hd.2 h1 h2)
theorem zip_fst : ∀ (ns : List Str) (vs : List V), (ns.zip vs).map Prod.fst = ns.take vs.length
  | [], _ => by simp
  | _ :: _, [] => rfl
  | n :: ns, _ :: vs => congrArg (n :: ·) (zip_fst ns vs)
theorem zip_cut : ∀ (ns : List Str) (vs : List V), ns.zip vs = (ns.take vs.length).zip vs
  | [], _ => by simp
  | _ :: _, [] => rfl
  | n :: ns, v :: vs => congrArg ((n, v) :: ·) (zip_cut ns vs)
theorem kv_any {ns : List Str} {vs : List V} {n : Str} : ((kv ns vs).any fun p => decide (p.1 = (.inr n : Key))) = true ↔ n ∈ (ns.take vs.length) := by
  unfold kv
  rw [List.any_map, List.any_eq_true]
  constructor
  · rintro ⟨⟨a, b⟩, hm, h⟩
    have h : (Sum.inr a : Key) = Sum.inr n := of_decide_eq_true h
    have e : a = n := Sum.inr.inj h
    subst e
    have : a ∈ (ns.zip vs).map Prod.fst := List.mem_map.mpr ⟨_, hm, rfl⟩
    rw [zip_fst] at this
    exact this
  · intro h
    have : n ∈ (ns.zip vs).map Prod.fst := by
      rw [zip_fst]
      exact h
    obtain ⟨⟨a, b⟩, hm, e⟩ := List.mem_map.mp this
    exact ⟨(a, b), hm, decide_eq_true (by rw [← e])⟩
theorem kv_new {ns : List Str} {vs : List V} {n : Str} {v : V} (hd : ns.Nodup) (h : ns[vs.length]? = some n) : putK (kv ns vs) (.inr n) v = kv ns (vs ++ [v]) := by
  have no : n ∉ ns.take vs.length := by
    intro hm
    obtain ⟨i, hi, e⟩ := List.getElem_of_mem hm
    obtain ⟨hl, e2⟩ := List.getElem?_eq_some_iff.mp h
    rw [List.length_take] at hi
    rw [List.getElem_take] at e
    have := (List.getElem_inj hd).mp (e.trans e2.symm)
    omega
  unfold putK
  rw [if_neg (fun e => no (kv_any.mp e))]
  unfold kv
  obtain ⟨hl, e2⟩ := List.getElem?_eq_some_iff.mp h
  have e3 : ns = ns.take vs.length ++ n :: ns.drop (vs.length + 1) := by
    rw [← e2, List.getElem_cons_drop, List.take_append_drop]
  have e4 : ns.zip vs = (ns.take vs.length).zip vs := zip_cut ns vs
  have l1 : (ns.take vs.length).length = vs.length := by rw [List.length_take]; omega
  have e5 : ns.zip (vs ++ [v]) = (ns.take vs.length).zip vs ++ [(n, v)] := by
    conv => lhs; rw [e3]
    rw [List.zip_append l1]
    simp
  rw [e4, e5, List.map_append]
  rfl
theorem kv_set : ∀ {ns : List Str} {vs : List V} {j : Nat} {n : Str} {v : V}, ns.Nodup → ns[j]? = some n → j < vs.length → (kv ns vs).map (fun p => if p.1 = (.inr n : Key) then (p.1, v) else p) = kv ns (vs.set j v)
  | [], _, _, _, _, _, h, _ => by cases h
  | _ :: _, [], _, _, _, _, _, h => absurd h (Nat.not_lt_zero _)
  | m :: ns, u :: vs, 0, n, v, hd, h1, h2 => by
    cases h1
    have hd := List.nodup_cons.mp hd
    show (if (Sum.inr m : Key) = Sum.inr m then _ else _) :: _ = (_ :: _ : List (Key × V))
    rw [if_pos rfl]
    refine congrArg (_ :: ·) ?_
    refine (List.map_congr_left fun p hp => ?_).trans (List.map_id _)
    obtain ⟨⟨a, b⟩, hm, e⟩ := List.mem_map.mp hp
    rw [if_neg ?_]
    · rfl
    · rw [← e]
      intro e2
      exact hd.1 (Sum.inr.inj e2 ▸ (List.of_mem_zip hm).1)
  | m :: ns, u :: vs, j + 1, n, v, hd, h1, h2 => by
    have h1 : ns[j]? = some n := h1
    have hd := List.nodup_cons.mp hd
    have ne : ¬ (Sum.inr m : Key) = Sum.inr n := fun e => hd.1 (by
      have e2 : m = n := Sum.inr.inj e
      rw [e2]
      exact List.mem_of_getElem? h1)
    show (if (Sum.inr m : Key) = Sum.inr n then _ else _) :: _ = (_ :: _ : List (Key × V))
    rw [if_neg ne]
    exact congrArg (_ :: ·) (kv_set hd.2 h1 (Nat.lt_of_succ_lt_succ h2))
theorem kv_put {ns : List Str} {vs : List V} {j : Nat} {n : Str} {v : V} (hd : ns.Nodup) (h : ns[j]? = some n) (hj : j < vs.length) : putK (kv ns vs) (.inr n) v = kv ns (vs.set j v) := by
  obtain ⟨hl, e2⟩ := List.getElem?_eq_some_iff.mp h
  have hm : n ∈ ns.take vs.length := by
    rw [← e2]
    exact List.mem_take_iff_getElem.mpr ⟨j, by omega, rfl⟩
  unfold putK
  rw [if_pos (kv_any.mpr hm)]
  exact kv_set hd h hj
theorem kv_keys {ns : List Str} {vs : List V} (h : vs.length = ns.length) : (kv ns vs).map (fun p => kV p.1) = ns.map V.str := by
  unfold kv
  rw [List.map_map]
  have : ((fun p : Key × V => kV p.1) ∘ fun p : Str × V => ((.inr p.1 : Key), p.2)) = V.str ∘ Prod.fst := rfl
  rw [this, ← List.map_map, List.map_fst_zip (by omega)]
/-! ### the questions and their answers -/
inductive X9 where
  | num (n : Int)
  | var (k : Nat) (p : Int)
  | item (j : Nat) (i : X9) (p : Int)
abbrev nm (ns : List Str) (k : Nat) : Str := ns.getD k ""
def X9.d (ns : List Str) : X9 → PyData
  | .num n => .tuple [.str "num", .int n]
  | .var k p => .tuple [.str "var", .str (nm ns k), .int p]
  | .item j i p => .tuple [.str "item", .str (nm ns (4 + j)), i.d ns, .int p]
def X9.plain : X9 → Prop
  | .num _ => True
  | .var k _ => k < 4
  | .item _ _ _ => False
def X9.good : X9 → Prop
  | .num _ => True
  | .var k _ => k < 4
  | .item j i _ => j < 2 ∧ i.plain
theorem X9.plain.good {e : X9} (h : e.plain) : e.good := by
  cases e with
  | num _ => exact True.intro
  | var _ _ => exact h
  | item _ _ _ => exact h.elim
def X9.dep : X9 → Nat
  | .item _ _ _ => 1
  | _ => 0
theorem X9.plain.dep {e : X9} (h : e.plain) : e.dep = 0 := by
  cases e with
  | num _ => rfl
  | var _ _ => rfl
  | item _ _ _ => exact h.elim
theorem X9.dep_le (e : X9) : e.dep < 2 := by
  cases e <;> simp [X9.dep]
def X9.ev (is : List Int) (ls : List (List Int)) : X9 → Option Int
  | .num n => some n
  | .var k p => some (is.getD k 0 + p)
  | .item j i p => match i.ev is ls with
    | none => none
    | some a => if 0 ≤ a ∧ a < (ls.getD j []).length then some ((ls.getD j []).getD a.toNat 0 + p) else none
def oI : Option Int → V
  | none => .non
  | some i => .int i
def oB : Option Bool → V
  | none => .non
  | some b => .bl b
theorem X9.plain.ev {e : X9} (h : e.plain) (is : List Int) (ls : List (List Int)) : ∃ i, e.ev is ls = some i := by
  cases e with
  | num n => exact ⟨n, rfl⟩
  | var k p => exact ⟨_, rfl⟩
  | item _ _ _ => exact h.elim
abbrev SG : List Str := ["<", "<=", ">", ">=", "==", "!="]
def cmpB : Nat → Int → Int → Bool
  | 0, a, b => decide (a < b)
  | 1, a, b => decide (a ≤ b)
  | 2, a, b => decide (a > b)
  | 3, a, b => decide (a ≥ b)
  | 4, a, b => decide (a = b)
  | _, a, b => !decide (a = b)
inductive Cn where
  | cmp (k : Nat) (l r : X9)
  | no (c : Cn)
  | jn (o : Bool) (cs : List Cn)
abbrev jw (o : Bool) : Str := if o then "or" else "and"
mutual
def Cn.d (ns : List Str) : Cn → PyData
  | .cmp k l r => .tuple [.str "cmp", .str (SG.getD k ""), l.d ns, r.d ns]
  | .no c => .tuple [.str "not", c.d ns]
  | .jn o cs => .tuple [.str (jw o), .tuple (Cn.ds ns cs)]
def Cn.ds (ns : List Str) : List Cn → List PyData
  | [] => []
  | c :: cs => c.d ns :: Cn.ds ns cs
end
mutual
def Cn.ok : Nat → Cn → Prop
  | _, .cmp k l r => k < 6 ∧ l.good ∧ r.good
  | 0, .no _ => False
  | n + 1, .no c => c.ok n
  | 0, .jn _ _ => False
  | n + 1, .jn _ cs => Cn.oks n cs
def Cn.oks : Nat → List Cn → Prop
  | _, [] => True
  | n, c :: cs => c.ok n ∧ Cn.oks n cs
end
def cmpO (k : Nat) : Option Int → Option Int → Option Bool
  | some a, some b => some (cmpB k a b)
  | _, _ => none
mutual
def Cn.ev (is : List Int) (ls : List (List Int)) : Cn → Option Bool
  | .cmp k l r => cmpO k (l.ev is ls) (r.ev is ls)
  | .no c => (c.ev is ls).map fun b => !b
  | .jn o cs => Cn.evs is ls o cs
def Cn.evs (is : List Int) (ls : List (List Int)) (o : Bool) : List Cn → Option Bool
  | [] => some (!o)
  | c :: cs => match c.ev is ls with
    | none => none
    | some b => if b = o then some b else Cn.evs is ls o cs
end
theorem Cn.ds_get {ns : List Str} : ∀ {cs : List Cn} {i : Nat} {c : Cn}, cs[i]? = some c → (Cn.ds ns cs)[i]? = some (c.d ns)
  | [], _, _, h => by cases h
  | c :: cs, 0, _, h => by
    cases h
    rfl
  | c :: cs, i + 1, _, h => by
    have h : cs[i]? = some _ := h
    exact Cn.ds_get (cs := cs) (i := i) h
theorem Cn.ds_len {ns : List Str} : ∀ {cs : List Cn}, (Cn.ds ns cs).length = cs.length
  | [] => rfl
  | c :: cs => congrArg (· + 1) Cn.ds_len
theorem Cn.ds_snoc {ns : List Str} {c : Cn} : ∀ {cs : List Cn}, Cn.ds ns (cs ++ [c]) = Cn.ds ns cs ++ [c.d ns]
  | [] => rfl
  | _ :: _ => congrArg (_ :: ·) Cn.ds_snoc
theorem Cn.oks_get {n : Nat} : ∀ {cs : List Cn} {i : Nat} {c : Cn}, Cn.oks n cs → cs[i]? = some c → c.ok n
  | [], _, _, _, h => by cases h
  | c :: cs, 0, _, g, h => by
    cases h
    exact g.1
  | c :: cs, i + 1, _, g, h => by
    have h : cs[i]? = some _ := h
    exact Cn.oks_get g.2 h
theorem Cn.oks_snoc {n : Nat} {c : Cn} : ∀ {cs : List Cn}, Cn.oks n cs → c.ok n → Cn.oks n (cs ++ [c])
  | [], _, h => ⟨h, True.intro⟩
  | _ :: _, g, h => ⟨g.1, Cn.oks_snoc g.2 h⟩
theorem Cn.evs_drop {is : List Int} {ls : List (List Int)} {o : Bool} {cs : List Cn} {i : Nat} {c : Cn} (h : cs[i]? = some c) :
    Cn.evs is ls o (cs.drop i) = match c.ev is ls with | none => none | some b => if b = o then some b else Cn.evs is ls o (cs.drop (i + 1)) := by
  obtain ⟨hl, e⟩ := List.getElem?_eq_some_iff.mp h
  rw [List.drop_eq_getElem_cons hl, e]
  rfl
/-! ### the parts of the data -/
theorem tp4 {H : Hp} {v : V} {d1 d2 d3 d4 : PyData} (h : Tp H v (.tuple [d1, d2, d3, d4])) : ∃ a v1 v2 v3 v4, v = .ref a ∧ H a = some (.tup [v1, v2, v3, v4]) ∧ Tp H v1 d1 ∧ Tp H v2 d2 ∧ Tp H v3 d3 ∧ Tp H v4 d4 := by
  cases h with
  | tup e r =>
    cases r with | cons h1 r => cases r with | cons h2 r => cases r with | cons h3 r => cases r with | cons h4 r =>
      cases r
      exact ⟨_, _, _, _, _, rfl, e, h1, h2, h3, h4⟩
theorem tp3 {H : Hp} {v : V} {d1 d2 d3 : PyData} (h : Tp H v (.tuple [d1, d2, d3])) : ∃ a v1 v2 v3, v = .ref a ∧ H a = some (.tup [v1, v2, v3]) ∧ Tp H v1 d1 ∧ Tp H v2 d2 ∧ Tp H v3 d3 := by
  cases h with
  | tup e r =>
    cases r with | cons h1 r => cases r with | cons h2 r => cases r with | cons h3 r =>
      cases r
      exact ⟨_, _, _, _, rfl, e, h1, h2, h3⟩
theorem tp2 {H : Hp} {v : V} {d1 d2 : PyData} (h : Tp H v (.tuple [d1, d2])) : ∃ a v1 v2, v = .ref a ∧ H a = some (.tup [v1, v2]) ∧ Tp H v1 d1 ∧ Tp H v2 d2 := by
  cases h with
  | tup e r =>
    cases r with | cons h1 r => cases r with | cons h2 r =>
      cases r
      exact ⟨_, _, _, rfl, e, h1, h2⟩
theorem tpL {H : Hp} {v : V} {ds : List PyData} (h : Tp H v (.tuple ds)) : ∃ a vs, v = .ref a ∧ H a = some (.tup vs) ∧ TpAll H vs ds := by
  cases h with
  | tup e r => exact ⟨_, _, rfl, e, r⟩
theorem tp_str {H : Hp} {v : V} {x : Str} (h : Tp H v (.str x)) : v = .str x := by
  cases h
  rfl
theorem tp_int {H : Hp} {v : V} {x : Int} (h : Tp H v (.int x)) : v = .int x := by
  cases h
  rfl
theorem tpSnoc {H : Hp} {v : V} {d : PyData} : ∀ {vs : List V} {ds : List PyData}, TpAll H vs ds → Tp H v d → TpAll H (vs ++ [v]) (ds ++ [d])
  | _, _, .nil, h => .cons h .nil
  | _, _, .cons h1 h2, h => .cons h1 (tpSnoc h2 h)
/-! ### the variables -/
def CellAt (H : Hp) (is : List Int) (ls : List (List Int)) (j : Nat) (v : V) : Prop :=
  (∃ x, is[j]? = some x ∧ v = .int x) ∨ ∃ a xs, 4 ≤ j ∧ ls[j - 4]? = some xs ∧ v = .ref a ∧ H a = some (.lst (xs.map V.int))
theorem CellAt.same {H H' : Hp} {is : List Int} {ls : List (List Int)} {j : Nat} {v : V} (s : Same H H') (c : CellAt H is ls j v) : CellAt H' is ls j v := by
  rcases c with c | ⟨a, xs, h1, h2, h3, h4⟩
  · exact .inl c
  · exact .inr ⟨a, xs, h1, h2, h3, s _ _ h4⟩
def EnvAt (H : Hp) (p : Addr) (ns : List Str) (is : List Int) (ls : List (List Int)) : Prop :=
  is.length = 4 ∧ ls.length = 2 ∧ ns.length = 6 ∧ ns.Nodup ∧ ∃ vs : List V, vs.length = 6 ∧ H p = some (.dK (kv ns vs)) ∧ ∀ j v, vs[j]? = some v → CellAt H is ls j v
theorem EnvAt.same {H H' : Hp} {p : Addr} {ns : List Str} {is : List Int} {ls : List (List Int)} (s : Same H H') (e : EnvAt H p ns is ls) : EnvAt H' p ns is ls := by
  obtain ⟨h1, h2, h3, h4, vs, h5, h6, h7⟩ := e
  exact ⟨h1, h2, h3, h4, vs, h5, s _ _ h6, fun j v g => (h7 j v g).same s⟩
theorem nm_at {ns : List Str} {k : Nat} (h : k < ns.length) : ns[k]? = some (nm ns k) := by
  unfold nm
  rw [List.getD_eq_getElem?_getD, List.getElem?_eq_getElem h]
  rfl
/-- a number out of the variables -/
theorem EnvAt.int {H : Hp} {p : Addr} {ns : List Str} {is : List Int} {ls : List (List Int)} (e : EnvAt H p ns is ls) {k : Nat} (hk : k < 4) : ∃ kvs, H p = some (.dK kvs) ∧ valV kvs (.inr (nm ns k)) = some (.int (is.getD k 0)) := by
  obtain ⟨h1, h2, h3, h4, vs, h5, h6, h7⟩ := e
  have g : vs[k]? = some vs[k] := List.getElem?_eq_getElem (by omega)
  refine ⟨_, h6, ?_⟩
  have e := kv_get h4 (nm_at (by omega)) g
  rw [e]
  rcases h7 k _ g with ⟨x, c1, c2⟩ | ⟨a, xs, c1, _⟩
  · rw [c2, List.getD_eq_getElem?_getD, c1]
    rfl
  · omega
theorem EnvAt.lst {H : Hp} {p : Addr} {ns : List Str} {is : List Int} {ls : List (List Int)} (e : EnvAt H p ns is ls) {j : Nat} (hj : j < 2) :
    ∃ kvs a, H p = some (.dK kvs) ∧ valV kvs (.inr (nm ns (4 + j))) = some (.ref a) ∧ H a = some (.lst ((ls.getD j []).map V.int)) := by
  obtain ⟨h1, h2, h3, h4, vs, h5, h6, h7⟩ := e
  have g : vs[4 + j]? = some vs[4 + j] := List.getElem?_eq_getElem (by omega)
  have e := kv_get h4 (nm_at (by omega)) g
  rcases h7 _ _ g with ⟨x, c1, c2⟩ | ⟨a, xs, c1, c2, c3, c4⟩
  · have := (List.getElem?_eq_some_iff.mp c1).1
    omega
  · refine ⟨_, a, h6, by rw [e, c3], ?_⟩
    have e2 : ls.getD j [] = xs := by
      rw [List.getD_eq_getElem?_getD]
      rw [show 4 + j - 4 = j by omega] at c2
      rw [c2]
      rfl
    rw [e2]
    exact c4
/-! ### the names -/
abbrev PADS : List Str := ["", "u", "zzzzzzzzzzz", "uz"]
def let9 (k : Nat) : Str := ⟨#[("abcdxy" : Str).cps.toList.getD k 0]⟩
def namesOf (k : Nat) : List Str := (PADS.map fun p => let9 k ++ p) ++ PADS.map fun p => p ++ let9 k
theorem names_apart : ∀ i, i < 6 → ∀ j, j < 6 → i ≠ j → ∀ x ∈ namesOf i, ∀ y ∈ namesOf j, x ≠ y := by decide +kernel
def NamesOk (ns : List Str) : Prop := ∀ i n, ns[i]? = some n → n ∈ namesOf i
theorem names_nodup {ns : List Str} (h : NamesOk ns) (hl : ns.length ≤ 6) : ns.Nodup := by
  rw [List.nodup_iff_pairwise_ne, List.pairwise_iff_getElem]
  intro i j hi hj lt
  exact names_apart i (by omega) j (by omega) (by omega) _ (h i _ (List.getElem?_eq_getElem hi)) _ (h j _ (List.getElem?_eq_getElem hj))
end WD
/-! WN: more rules and steps. -/
namespace WN
open PySem PySem.Spec PyProof.Rows L2 Wy
theorem sm {H H' : Hp} {a : Addr} {o : HO} (s : Same H H') (h : H a = some o) : H' a = some o := s _ _ h
theorem cm {l : Addr} {H H' : Hp} {a : Addr} {o : HO} (c : Chg l H H') (n : a ≠ l) (h : H a = some o) : H' a = some o := c.at h n
theorem ne_new {H : Hp} {a l : Addr} {o : HO} (n : H l = none) (h : H a = some o) : a ≠ l := ne_of_none h n
theorem iteTT {b : Bool} {A B : Prop} (e : b = true) (h : A) : if b = true then A else B := by
  rw [if_pos e]
  exact h
theorem iteFF {b : Bool} {A B : Prop} (e : b = false) (h : B) : if b = true then A else B := by
  rw [if_neg (by rw [e]; exact Bool.false_ne_true)]
  exact h
theorem iteB {b : Bool} {A B : Prop} (h1 : b = true → A) (h2 : b = false → B) : if b = true then A else B := by
  cases b with
  | true => exact iteTT rfl (h1 rfl)
  | false => exact iteFF rfl (h2 rfl)
/-- a decided question -/
theorem iteD {p : Prop} [Decidable p] {A B : Prop} (h1 : p → A) (h2 : ¬ p → B) : if decide p = true then A else B := ite2 (fun e => h1 (of_decide_eq_true e)) fun e => h2 fun x => e (decide_eq_true x)
theorem iteND {p : Prop} [Decidable p] {A B : Prop} (h1 : ¬ p → A) (h2 : p → B) : if (!decide p) = true then A else B := by
  by_cases h : p
  · exact iteFF (by rw [decide_eq_true h]; rfl) (h2 h)
  · exact iteTT (by rw [decide_eq_false h]; rfl) (h1 h)
theorem nRN (a : Addr) : decide (V.ref a = V.non) = false := decide_eq_false (fun e => nomatch e)
theorem nIN (a : Int) : decide (V.int a = V.non) = false := decide_eq_false (fun e => nomatch e)
theorem nSN (a : Str) : decide (V.str a = V.non) = false := decide_eq_false (fun e => nomatch e)
theorem nBN (a : Bool) : decide (V.bl a = V.non) = false := decide_eq_false (fun e => nomatch e)
theorem nNRN (a : Addr) : (!decide (V.ref a = V.non)) = true := by rw [nRN]; rfl
theorem nNIN (a : Int) : (!decide (V.int a = V.non)) = true := by rw [nIN]; rfl
theorem nNSN (a : Str) : (!decide (V.str a = V.non)) = true := by rw [nSN]; rfl
theorem nNBN (a : Bool) : (!decide (V.bl a = V.non)) = true := by rw [nBN]; rfl
theorem dI (a b : Int) : decide (V.int a = V.int b) = decide (a = b) := by
  by_cases h : a = b
  · subst h
    rw [decide_eq_true rfl, decide_eq_true rfl]
  · rw [decide_eq_false h, decide_eq_false (fun e => h (V.int.inj e))]
theorem iteI {i j : Int} {A B : Prop} (h1 : i = j → A) (h2 : ¬ i = j → B) : if decide (V.int i = V.int j) = true then A else B := by
  rw [dI]
  exact iteD h1 h2
theorem iteNI {i j : Int} {A B : Prop} (h1 : ¬ i = j → A) (h2 : i = j → B) : if (!decide (V.int i = V.int j)) = true then A else B := by
  rw [dI]
  exact iteND h1 h2
theorem free_of {H H' : Hp} {a : Addr} (n : H' a = none) (s : Same H H') : H a = none := s.free n
theorem dB (a b : Bool) : decide (V.bl a = V.bl b) = decide (a = b) := by cases a <;> cases b <;> rfl
section
variable {X : Cx}
def rAll2 (K : PySem.W.Frag) : List V → Hp → VK → Prop := rAll K
theorem call_all2 (hc : X.calm = true) : CallR X (.builtin "all") (rAll2 X.K) := cr_all hc
def rSum2 (K : PySem.W.Frag) : List V → Hp → VK → Prop := rSum K
theorem call_sum2 (hc : X.calm = true) : CallR X (.builtin "sum") (rSum2 X.K) := cr_sum hc
def rMx2 (_ : PySem.W.Frag) : List V → Hp → VK → Prop := fun xs H Q => ∃ i j, xs = [.int i, .int j] ∧ Q (.int (if j > i then j else i)) H
theorem call_mx2 (hc : X.calm = true) : CallR X (.builtin "max") (rMx2 X.K) := call_max2 hc
def rMn2 (_ : PySem.W.Frag) : List V → Hp → VK → Prop := fun xs H Q => ∃ i j, xs = [.int i, .int j] ∧ Q (.int (if j < i then j else i)) H
theorem call_mn2 (hc : X.calm = true) : CallR X (.builtin "min") (rMn2 X.K) := call_min2 hc
def rIsi2 (K : PySem.W.Frag) : List V → Hp → VK → Prop := fun xs H Q => rIsi K xs H Q ∨ rIsiT K xs H Q
theorem call_isi2 : CallR X (.builtin "isinstance") (rIsi2 X.K) := Wy.CallR.or call_isi call_isiT
/-- a call of a built-in that wants calm -/
theorem pe_callC {id : String} {x : Str} {e : Expr} {es : List Expr} {p pos : Pos} {t : TA} {r : PySem.W.Frag → List V → Hp → VK → Prop} (hc : ∀ X : Cx, X.calm = true → CallR X (.builtin id) (r X.K)) (hg : Gl X x) (hm : X.mg x = none) (hv : bootBuiltins x = some (.builtin id)) (ha : PA X (e :: es) t) (hcalm : X.calm = true := by rfl) (hn : x ≠ "__name__" := by decide) (hdb : (x == ("__debug__" : Str)) = false := by decide)
    (he : starEach (e :: es) X.env = (false, eval e X.env) :: starEach es X.env := by rfl) (hpl : (backTo pos (starEach es X.env)).any (·.1) = false := by rfl) : PE X (.Call (.Name x p) (e :: es) [] pos) (tCB (r X.K) t) :=
  pe_callB (hc X hcalm) hg hm hv ha hn hdb he hpl
theorem cc_all (X : Cx) (h : X.calm = true) : CallR X (.builtin "all") (rAll2 X.K) := call_all2 h
theorem cc_sum (X : Cx) (h : X.calm = true) : CallR X (.builtin "sum") (rSum2 X.K) := call_sum2 h
theorem cc_max (X : Cx) (h : X.calm = true) : CallR X (.builtin "max") (rMx2 X.K) := call_mx2 h
theorem cc_min (X : Cx) (h : X.calm = true) : CallR X (.builtin "min") (rMn2 X.K) := call_mn2 h
/-- repr of data -/
def rRepr (K : PySem.W.Frag) : List V → Hp → VK → Prop := fun xs H Q => ∃ (a : Addr) (d : PyData), xs = [.ref a] ∧ Dp K H (.ref a) d ∧ d.showable = true ∧ d.hasDict = false ∧ d.depth ≤ 60 ∧ d.shown.length ≤ sizeLine ∧ Q (.str d.shown) H
end
section
variable {K : PySem.W.Frag} {H : Hp} {Q : VK} {v x y : V} {b : Bool}
theorem o_fdW {f : Int → Int → V} {i j : Int} (h1 : 0 < j) (h2 : j ≤ 10 ^ 90) (h : Q (f i j) H) : rI CDivW f (.int i) (.int j) H Q :=
  ⟨i, j, rfl, rfl, wide_div (b := 400) h1 (by
    have : (10 : Int) ^ 90 < 2 ^ 400 := by decide +kernel
    omega) (by decide) (by decide), h⟩
/-- a rest, its bounds alone -/
theorem o_modG {i j : Int} (h1 : 0 < j) (h : ∀ r : Int, 0 ≤ r → r < j → Q (.int r) H) : rI (fun _ j => 0 < j) (fun i j => .int (i % j)) (.int i) (.int j) H Q := o_mod h1 (h _ (Int.emod_nonneg _ (by omega)) (Int.emod_lt_of_pos _ h1))
theorem b_all {a : Addr} {bs : List Bool} (hs : SqL K H a (bs.map V.bl)) (h : Q (.bl (bs.all id)) H) : rAll2 K [.ref a] H Q := ⟨a, bs, rfl, hs, h⟩
theorem b_sum {a : Addr} {ns : List Int} (hs : SqL K H a (ns.map V.int)) (h : Q (.int ns.sum) H) : rSum2 K [.ref a] H Q := ⟨a, ns, rfl, hs, h⟩
theorem b_mx {i j : Int} (h : Q (.int (max i j)) H) : rMx2 K [.int i, .int j] H Q := ⟨i, j, rfl, by
  have e : (if j > i then j else i) = max i j := by split <;> omega
  rw [e]
  exact h⟩
theorem b_mn {i j : Int} (h : Q (.int (min i j)) H) : rMn2 K [.int i, .int j] H Q := ⟨i, j, rfl, by
  have e : (if j < i then j else i) = min i j := by split <;> omega
  rw [e]
  exact h⟩
theorem b_is2 {n : String} {x : V} {tv : Value} (ty : TyX K H x tv) (h : PySem.W.kitOne K tv (.type n) = some b) (q : Q (.bl b) H) : rIsi2 K [x, .ty n] H Q := .inl (b_isi ty h q)
theorem ls_new {a : Addr} {xs : List V} (hs : SqL K H a xs) (h : ∀ p H2, H p = none → Same H H2 → H2 p = some (.lst xs) → Q (.ref p) H2) : rLst K [.ref a] H Q := ⟨a, xs, rfl, .inl hs, new_same h⟩
theorem ls_newT {a : Addr} {xs : List V} (hs : SqT K H a xs) (h : ∀ p H2, H p = none → Same H H2 → H2 p = some (.lst xs) → Q (.ref p) H2) : rLst K [.ref a] H Q := ⟨a, xs, rfl, .inr hs, new_same h⟩
theorem tp_new {a : Addr} {xs : List V} (hs : SqL K H a xs) (h : ∀ p H2, H p = none → Same H H2 → H2 p = some (.tup xs) → Q (.ref p) H2) : W6.rTup K [.ref a] H Q := W6.b_tup hs h
theorem tp_same {a : Addr} {xs : List V} (hs : SqT K H a xs) (h : Q (.ref a) H) : W6.rTup K [.ref a] H Q := ⟨a, xs, rfl, .inr ⟨hs, h⟩⟩
end
/-! ### draws -/
/-- each draw lies below its size -/
inductive Dr : List Int → List Int → Prop
  | nil : Dr [] []
  | cons {d s : Int} {ds ss : List Int} : 0 ≤ d → d < s → Dr ds ss → Dr (d :: ds) (s :: ss)
theorem Dr.len : ∀ {ds ss : List Int}, Dr ds ss → ds.length = ss.length
  | _, _, .nil => rfl
  | _, _, .cons _ _ h => by rw [List.length_cons, List.length_cons, h.len]
theorem Dr.snoc : ∀ {ds ss : List Int} {d s : Int}, Dr ds ss → 0 ≤ d → d < s → Dr (ds ++ [d]) (ss ++ [s])
  | _, _, _, _, .nil, h1, h2 => .cons h1 h2 .nil
  | _, _, _, _, .cons a b h, h1, h2 => .cons a b (h.snoc h1 h2)
theorem Dr.at : ∀ {ds ss : List Int} {i : Nat} {s : Int}, Dr ds ss → ss[i]? = some s → ∃ d, ds[i]? = some d ∧ 0 ≤ d ∧ d < s
  | _, _, 0, _, .cons a b _, e => by cases e; exact ⟨_, rfl, a, b⟩
  | _, _, i + 1, _, .cons _ _ h, e => h.at (i := i) e
theorem Dr.get {ds ss : List Int} {i : Nat} {d : Int} (h : Dr ds ss) (e : ds[i]? = some d) : ∃ s, ss[i]? = some s ∧ 0 ≤ d ∧ d < s := by
  have hl := h.len
  have hi := (List.getElem?_eq_some_iff.mp e).1
  obtain ⟨d', e', h1, h2⟩ := h.at (i := i) (List.getElem?_eq_getElem (by omega))
  rw [e] at e'
  cases e'
  exact ⟨_, List.getElem?_eq_getElem (by omega), h1, h2⟩
theorem Dr.inv {ds ss : List Int} {s : Int} (h : Dr ds (s :: ss)) : ∃ d r, ds = d :: r ∧ 0 ≤ d ∧ d < s ∧ Dr r ss := by
  cases h with
  | cons h1 h2 h3 => exact ⟨_, _, rfl, h1, h2, h3⟩
theorem Dr.nil_inv {ds : List Int} (h : Dr ds []) : ds = [] := by
  cases h
  rfl
/-- sizes that may be drawn below -/
def SzOk (ss : List Int) : Prop := ss.length ≤ 1000 ∧ ∀ s ∈ ss, 0 < s ∧ s ≤ 10 ^ 80
theorem szOk_of {ss : List Int} (h : (decide (ss.length ≤ 1000) && ss.all fun s => decide (0 < s) && decide (s ≤ 10 ^ 80)) = true) : SzOk ss := by
  simp only [Bool.and_eq_true, decide_eq_true_eq, List.all_eq_true] at h
  exact h
def PR : List Int := [2147483647, 998244353, 1000000007, 1000000009, 4294967291, 1073741789, 536870909, 2305843009213693951]
theorem pr_at {j : Nat} (h : j < 8) : ∃ p, PR[j]? = some p ∧ 0 < p ∧ p < 2 ^ 62 := by
  have : ∀ j, j < 8 → 0 < PR.getD j 0 ∧ PR.getD j 0 < 2 ^ 62 := by decide +kernel
  exact ⟨PR.getD j 0, by rw [List.getD_eq_getElem?_getD, List.getElem?_eq_getElem (by exact h)]; rfl, this j h⟩
theorem ix_pr {K : PySem.W.Frag} {H : Hp} {Q : VK} {a : Addr} {i : Int} (e : H a = some (.lst (PR.map V.int))) (h0 : 0 ≤ i) (h8 : i < 8) (h : ∀ p : Int, 0 < p → p < 2 ^ 62 → Q (.int p) H) : rIx K (.ref a) (.int i) H Q := by
  obtain ⟨p, g, p1, p2⟩ := pr_at (j := i.toNat) (by omega)
  exact o_ixL (lst_of e) (atI_of (j := i.toNat) (by omega) (v := .int p) (by rw [List.getElem?_map, g]; rfl)) (h p p1 p2)
/-- an int out of a list of ints -/
theorem ix_int {K : PySem.W.Frag} {H : Hp} {Q : VK} {a : Addr} {xs : List Int} {i : Int} (hs : SqL K H a (xs.map V.int)) (h0 : 0 ≤ i) (h1 : i < xs.length) (h : ∀ x : Int, xs[i.toNat]? = some x → Q (.int x) H) : rIx K (.ref a) (.int i) H Q := by
  have e := List.getElem?_eq_getElem (l := xs) (i := i.toNat) (by omega)
  exact o_ixL hs (atI_of (j := i.toNat) (by omega) (v := .int xs[i.toNat]) (by rw [List.getElem?_map, e]; rfl)) (h _ e)
def spCellN (K : PySem.W.Frag) : Sp := fun vs H Q _ => ∃ (a : Addr) (ns : List Int) (k : Int), vs = [.ref a, .int k] ∧ SqL K H a (ns.map V.int) ∧ ∀ r : Int, Q (.int r) H
def spDraws (K : PySem.W.Frag) : Sp := fun vs H Q _ => ∃ (a b : Addr) (ns ss : List Int) (k : Int), vs = [.ref a, .int k, .ref b] ∧ SqL K H a (ns.map V.int) ∧ SqL K H b (ss.map V.int) ∧ SzOk ss ∧
  ∀ p H' ds, Same H H' → H p = none → H' p = some (.lst ((ds : List Int).map V.int)) → Dr ds ss → Q (.ref p) H'
/-! ### lists and tuples alike -/
def iSeq (K : PySem.W.Frag) (te : TE) : TI := fun σ H R => iList K te σ H R ∨ iTup K te σ H R
theorem pi_seq {X : Cx} {tg e : Expr} {te : TE} (h : PE X e te) : PI X tg e (iSeq X.K te) := ⟨fun pins s σ H R I q => q.elim (fun q => (pi_list h).run pins s σ H R I q) (fun q => (pi_tup h).run pins s σ H R I q)⟩
theorem w_sl {K : PySem.W.Frag} {te : TE} {σ : L2.St} {H : Hp} {R : It → Hp → Prop} (h : te σ H fun x H1 => KL K x H1 R) : iSeq K te σ H R := .inl h
theorem w_st {K : PySem.W.Frag} {te : TE} {σ : L2.St} {H : Hp} {R : It → Hp → Prop} (h : te σ H fun x H1 => KT K x H1 R) : iSeq K te σ H R := .inr h
def Sq (K : PySem.W.Frag) (H : Hp) (a : Addr) (xs : List V) : Prop := SqL K H a xs ∨ SqT K H a xs
theorem Sq.same {K : PySem.W.Frag} {H H' : Hp} {a : Addr} {xs : List V} (h : Sq K H a xs) (s : Same H H') : Sq K H' a xs := h.imp (fun h => s.seq h) fun h => seqT s h
/-- an iterator over such -/
def SqIt (K : PySem.W.Frag) (a : Addr) (xs : List V) (J : It) (H : Hp) : Prop := (J = Itl K a ∧ SqL K H a xs) ∨ (J = Itt K a ∧ SqT K H a xs)
theorem SqIt.same {K : PySem.W.Frag} {H H' : Hp} {a : Addr} {xs : List V} {J : It} (h : SqIt K a xs J H) (s : Same H H') : SqIt K a xs J H' := h.imp (fun h => ⟨h.1, s.seq h.2⟩) fun h => ⟨h.1, seqT s h.2⟩
section
variable {K : PySem.W.Frag} {σ : L2.St} {H : Hp} {Q : VK} {D : Ends} {t : TS} {te : TE} {tt : TT} {g : TG} {a : Addr} {xs : List V} {vs : List Nat} {i : Nat} {J : It}
/-- for x in v, v a slot -/
theorem w_sq {R : It → Hp → Prop} (hs : Sq K H a xs) (e : σ[i]? = some (some (.ref a))) (h : ∀ J, SqIt K a xs J H → R J H) : iSeq K (tVar i) σ H R := by
  rcases hs with hs | hs
  · exact .inl (w_l (e_var e (k_l hs (h _ (.inl ⟨rfl, hs⟩)))))
  · exact .inr (w_t (e_var e (k_t hs (h _ (.inr ⟨rfl, hs⟩)))))
theorem f_sq {H0 : Hp} (hJ : SqIt K a xs J H0) (Pv : Nat → L2.St → Hp → Prop) (h0 : Pv 0 σ H) (hl : ∀ i σ H, Pv i σ H → Same H0 H)
    (hs : ∀ i x σ H, xs[i]? = some x → Pv i σ H → g x σ H fun σ2 H2 => t ⟨Pv (i + 1), D.rt, D.nx, Pv (i + 1)⟩ σ2 H2) (hd : ∀ σ H, Pv xs.length σ H → D.nx σ H) : LoopF J g t D σ H := by
  rcases hJ with ⟨rfl, hJ⟩ | ⟨rfl, hJ⟩
  · exact f_list Pv h0 (fun i σ H _ p => (hl i σ H p).seq hJ) hs hd
  · exact f_tup Pv h0 (fun i σ H _ p => seqT (hl i σ H p) hJ) hs hd
/-- a list comprehension: what is taken so far -/
theorem c_acc (hJ : SqIt K a xs J H) (R : Nat → List V → Hp → Prop) (mono : ∀ i acc H H', TK H H' → R i acc H → R i acc H') (small : ∀ i acc H, i ≤ xs.length → R i acc H → acc.length < sizeLine) (r0 : R 0 [] H)
    (step : ∀ i x H1 acc (N : VK) (M : Hp → Prop), xs[i]? = some x → Same H H1 → R i acc H1 → (∀ y H3, Same H1 H3 → R (i + 1) (acc ++ [y]) H3 → N y H3) → (∀ H3, Same H1 H3 → R (i + 1) acc H3 → M H3) →
      g x (wipe σ vs) H1 fun σ2 H2 => wipe σ2 vs = wipe σ vs ∧ tt σ2 H2 fun b H3 => if b = true then te σ2 H3 N else M H3)
    (post : ∀ D H2 ys, H D = none → Same H H2 → H2 D = some (.lst ys) → R xs.length ys H2 → Q (.ref D) H2) : LoopC J g tt te vs σ H Q := by
  have key : ∀ (D : Addr) (i : Nat) (x : V) (H1 : Hp), xs[i]? = some x → H D = none → (Same H H1 ∧ ∃ acc, H1 D = some (.lst acc) ∧ R i acc H1) → g x (wipe σ vs) H1 fun σ2 H2 => wipe σ2 vs = wipe σ vs ∧ tt σ2 H2 fun b H3 =>
      if b = true then te σ2 H3 fun y H4 => COut D y H4 (fun H5 => Same H H5 ∧ ∃ acc, H5 D = some (.lst acc) ∧ R (i + 1) acc H5) else (fun H5 => Same H H5 ∧ ∃ acc, H5 D = some (.lst acc) ∧ R (i + 1) acc H5) H3 := by
    intro D i x H1 hx nD ⟨s1, acc, e1, r1⟩
    have hi := (List.getElem?_eq_some_iff.mp hx).1
    refine step i x H1 acc _ _ hx s1 r1 (fun y H3 s3 r3 => ?_) (fun H3 s3 r3 => ⟨s1.trans s3, acc, s3 _ _ e1, r3⟩)
    refine c_out (s3 _ _ e1) (small i acc H1 (by omega) r1) fun H4 c4 e4 => ⟨c4.same (s1.trans s3) nD, _, e4, mono _ _ _ _ (c4.tk (s3 _ _ e1)) r3⟩
  have p0 : ∀ (D : Addr) (H1 : Hp), H D = none → Same H H1 → H1 D = some (.lst []) → (Same H H1 ∧ ∃ acc, H1 D = some (.lst acc) ∧ R 0 acc H1) := fun D H1 nD s1 e1 => ⟨s1, [], e1, mono _ _ _ _ s1.tk r0⟩
  have pe : ∀ (D : Addr) (H1 : Hp), H D = none → (Same H H1 ∧ ∃ acc, H1 D = some (.lst acc) ∧ R xs.length acc H1) → Q (.ref D) H1 := fun D H1 nD ⟨s1, acc, e1, r1⟩ => post D H1 acc nD s1 e1 r1
  rcases hJ with ⟨rfl, hJ⟩ | ⟨rfl, hJ⟩
  · exact c_list (fun D i H1 => Same H H1 ∧ ∃ acc, H1 D = some (.lst acc) ∧ R i acc H1) p0 (fun D i H1 _ _ p => p.1.seq hJ) (fun D i x H1 hx nD p => key D i x H1 hx nD p) pe
  · exact fun D nD => lc_tup (fun i H1 => Same H H1 ∧ ∃ acc, H1 D = some (.lst acc) ∧ R i acc H1) (p0 D _ nD (same_new nD) upd_same) (fun i H1 _ p => seqT p.1 hJ) (fun i x H1 hx p => key D i x H1 hx nD p) fun H1 p => pe D H1 nD p
theorem c_accR {lo : Int} {n : Nat} (R : Nat → List V → Hp → Prop) (mono : ∀ i acc H H', TK H H' → R i acc H → R i acc H') (small : ∀ i acc H, i ≤ n → R i acc H → acc.length < sizeLine) (r0 : R 0 [] H)
    (step : ∀ i H1 acc (N : VK) (M : Hp → Prop), i < n → Same H H1 → R i acc H1 → (∀ y H3, Same H1 H3 → R (i + 1) (acc ++ [y]) H3 → N y H3) → (∀ H3, Same H1 H3 → R (i + 1) acc H3 → M H3) →
      g (.int (lo + i)) (wipe σ vs) H1 fun σ2 H2 => wipe σ2 vs = wipe σ vs ∧ tt σ2 H2 fun b H3 => if b = true then te σ2 H3 N else M H3)
    (post : ∀ D H2 ys, H D = none → Same H H2 → H2 D = some (.lst ys) → R n ys H2 → Q (.ref D) H2) : LoopC (Itr lo n) g tt te vs σ H Q := by
  refine c_range (fun D i H1 => Same H H1 ∧ ∃ acc, H1 D = some (.lst acc) ∧ R i acc H1) (fun D H1 nD s1 e1 => ⟨s1, [], e1, mono _ _ _ _ s1.tk r0⟩) (fun D i H1 hi nD p => ?_) (fun D H1 nD ⟨s1, acc, e1, r1⟩ => post D H1 acc nD s1 e1 r1)
  obtain ⟨s1, acc, e1, r1⟩ := p
  refine step i H1 acc _ _ hi s1 r1 (fun y H3 s3 r3 => ?_) (fun H3 s3 r3 => ⟨s1.trans s3, acc, s3 _ _ e1, r3⟩)
  refine c_out (s3 _ _ e1) (small i acc H1 (by omega) r1) fun H4 c4 e4 => ⟨c4.same (s1.trans s3) nD, _, e4, mono _ _ _ _ (c4.tk (s3 _ _ e1)) r3⟩
end
/-- one value an item -/
def One (P : Nat → V → Hp → Prop) (i : Nat) (acc : List V) (H : Hp) : Prop := acc.length = i ∧ ∀ j y, acc[j]? = some y → P j y H
theorem One.zero {P : Nat → V → Hp → Prop} {H : Hp} : One P 0 [] H := ⟨rfl, fun j y e => by cases e⟩
theorem One.snoc {P : Nat → V → Hp → Prop} {i : Nat} {acc : List V} {H H3 : Hp} {y : V} (mono : ∀ j z, P j z H → P j z H3) (o : One P i acc H) (h : P i y H3) : One P (i + 1) (acc ++ [y]) H3 := by
  refine ⟨by rw [List.length_append, o.1]; rfl, fun j z e => ?_⟩
  by_cases hj : j < acc.length
  · rw [List.getElem?_append_left hj] at e
    exact mono _ _ (o.2 j z e)
  · have hj2 := (List.getElem?_eq_some_iff.mp e).1
    rw [List.length_append, List.length_singleton] at hj2
    have : j = acc.length := by omega
    subst this
    rw [List.getElem?_append_right (Nat.le_refl _), Nat.sub_self] at e
    cases e
    rw [o.1]
    exact h
/-- the list is known from its items -/
theorem One.eq {P : Nat → V → Hp → Prop} {α : Type} {F : α → V} {xs : List α} {acc : List V} {H : Hp} (o : One P xs.length acc H) (h : ∀ j y, j < xs.length → P j y H → xs[j]?.map F = some y) : acc = xs.map F := by
  refine List.ext_getElem? fun j => ?_
  by_cases hj : j < xs.length
  · have hj2 : j < acc.length := by rw [o.1]; exact hj
    rw [List.getElem?_map, h j _ hj (o.2 j acc[j] (List.getElem?_eq_getElem hj2)), List.getElem?_eq_getElem hj2]
  · rw [List.getElem?_eq_none (by rw [o.1]; omega), List.getElem?_eq_none (by rw [List.length_map]; omega)]
theorem One.eqR {P : Nat → V → Hp → Prop} {n : Nat} {F : Nat → V} {acc : List V} {H : Hp} (o : One P n acc H) (h : ∀ j y, j < n → P j y H → y = F j) : acc = (List.range n).map F := by
  refine One.eq (xs := List.range n) (F := F) (by rw [List.length_range]; exact o) fun j y hj p => ?_
  rw [List.length_range] at hj
  rw [List.getElem?_range hj, h j y hj p]
  rfl
theorem One.ints {P : Nat → V → Hp → Prop} {n : Nat} {acc : List V} {H : Hp} (o : One P n acc H) (h : ∀ j y, j < n → P j y H → ∃ i : Int, y = .int i) : ∃ xs : List Int, acc = xs.map V.int ∧ xs.length = n := by
  have key : ∀ acc : List V, (∀ y ∈ acc, ∃ i : Int, y = .int i) → ∃ xs : List Int, acc = xs.map V.int := by
    intro acc
    induction acc with
    | nil => exact fun _ => ⟨[], rfl⟩
    | cons y r ih =>
      intro h
      obtain ⟨i, rfl⟩ := h y List.mem_cons_self
      obtain ⟨xs, rfl⟩ := ih fun z hz => h z (List.mem_cons_of_mem _ hz)
      exact ⟨i :: xs, rfl⟩
  obtain ⟨xs, e⟩ := key acc fun y hy => by
    obtain ⟨j, hj, e⟩ := List.getElem_of_mem hy
    exact h j y (by rw [← o.1]; exact hj) (o.2 j y (by rw [List.getElem?_eq_getElem hj, e]))
  exact ⟨xs, e, by rw [← o.1, e, List.length_map]⟩
/-- `xs` with the pattern n times -/
theorem One.const {n : Nat} {acc : List V} {H : Hp} {v : V} (o : One (fun _ y _ => y = v) n acc H) : acc = List.replicate n v := by
  refine List.ext_getElem? fun j => ?_
  rw [List.getElem?_replicate]
  by_cases hj : j < n
  · rw [if_pos hj, List.getElem?_eq_getElem (by rw [o.1]; exact hj), o.2 j _ (List.getElem?_eq_getElem (by rw [o.1]; exact hj))]
  · rw [if_neg hj, List.getElem?_eq_none (by rw [o.1]; omega)]
end WN
/-! WQ: data that is equal. -/
namespace WQ
open PySem PySem.Spec PyProof.Rows L2 Wy WN
mutual
/-- no truth value in it -/
def nb : PyData → Bool
  | .none => true
  | .bool _ => false
  | .int _ => true
  | .str _ => true
  | .list xs => nbAll xs
  | .tuple xs => nbAll xs
  | .dict _ => false
def nbAll : List PyData → Bool
  | [] => true
  | x :: xs => nb x && nbAll xs
end
mutual
theorem eqv_iff : ∀ (d e : PyData), nb d = true → nb e = true → (PyData.eqv d e = true ↔ d = e)
  | .none, e, _, h => by cases e <;> simp [PyData.eqv, nb] at h ⊢
  | .bool _, _, h, _ => by simp [nb] at h
  | .int i, e, _, h => by cases e <;> simp [PyData.eqv, nb] at h ⊢
  | .str x, e, _, h => by cases e <;> simp [PyData.eqv, nb] at h ⊢
  | .list xs, e, h, h' => by
    cases e with
    | list ys =>
      have ih := eqvAll_iff xs ys (by simpa [nb] using h) (by simpa [nb] using h')
      simp [PyData.eqv, ih]
    | _ => simp [PyData.eqv, nb] at h' ⊢
  | .tuple xs, e, h, h' => by
    cases e with
    | tuple ys =>
      have ih := eqvAll_iff xs ys (by simpa [nb] using h) (by simpa [nb] using h')
      simp [PyData.eqv, ih]
    | _ => simp [PyData.eqv, nb] at h' ⊢
  | .dict _, _, h, _ => by simp [nb] at h
theorem eqvAll_iff : ∀ (xs ys : List PyData), nbAll xs = true → nbAll ys = true → (PyData.eqvAll xs ys = true ↔ xs = ys)
  | [], [], _, _ => by simp [PyData.eqvAll]
  | [], _ :: _, _, _ => by simp [PyData.eqvAll]
  | _ :: _, [], _, _ => by simp [PyData.eqvAll]
  | x :: xs, y :: ys, h, h' => by
    simp only [nbAll, Bool.and_eq_true] at h h'
    have i1 := eqv_iff x y h.1 h'.1
    have i2 := eqvAll_iff xs ys h.2 h'.2
    simp [PyData.eqvAll, i1, i2]
end
theorem shaped_of {d : PyData} (h : d.canLay0 = true) (h2 : d.depth ≤ 64) : SeqAt.shaped d = true := by
  unfold SeqAt.shaped
  rw [h, decide_eq_true h2]
  rfl
section
variable {K : PySem.W.Frag} {H : Hp} {Q : VK} {x y : V} {d e : PyData}
theorem eq_same (h1 : Dp K H x d) (h2 : Dp K H y d) (hs : SeqAt.shaped d = true) (h : Q (.bl true) H) : rEq2 K x y H Q := by
  refine o_eqD h1 h2 hs hs ?_
  rw [SeqAt.eqv_refl _ (SeqAt.canLay_of_shaped hs)]
  exact h
theorem ne_same (h1 : Dp K H x d) (h2 : Dp K H y d) (hs : SeqAt.shaped d = true) (h : Q (.bl false) H) : rNe2 K x y H Q := by
  refine o_neD h1 h2 hs hs ?_
  rw [SeqAt.eqv_refl _ (SeqAt.canLay_of_shaped hs)]
  exact h
theorem eq_nb (h1 : Dp K H x d) (h2 : Dp K H y e) (hs : SeqAt.shaped d = true) (hs2 : SeqAt.shaped e = true) (n1 : nb d = true) (n2 : nb e = true) (hy : d = e → Q (.bl true) H) (hn : d ≠ e → Q (.bl false) H) : rEq2 K x y H Q := by
  refine o_eqD h1 h2 hs hs2 ?_
  have i := eqv_iff d e n1 n2
  cases q : PyData.eqv d e with
  | true => exact hy (i.mp q)
  | false => exact hn fun z => by rw [i.mpr z] at q; cases q
theorem ne_nb (h1 : Dp K H x d) (h2 : Dp K H y e) (hs : SeqAt.shaped d = true) (hs2 : SeqAt.shaped e = true) (n1 : nb d = true) (n2 : nb e = true) (hy : d = e → Q (.bl false) H) (hn : d ≠ e → Q (.bl true) H) : rNe2 K x y H Q := by
  refine o_neD h1 h2 hs hs2 ?_
  have i := eqv_iff d e n1 n2
  cases q : PyData.eqv d e with
  | true => exact hy (i.mp q)
  | false => exact hn fun z => by rw [i.mpr z] at q; cases q
end
theorem lay_all {α : Type} (F : α → PyData) : ∀ xs : List α, (∀ x ∈ xs, (F x).canLay0 = true) → PyData.canLayAll0 (xs.map F) = true
  | [], _ => by simp [PyData.canLayAll0]
  | x :: xs, h => by simp [PyData.canLayAll0, h x List.mem_cons_self, lay_all F xs fun y hy => h y (List.mem_cons_of_mem _ hy)]
theorem dep_all {α : Type} (F : α → PyData) (n : Nat) : ∀ xs : List α, (∀ x ∈ xs, (F x).depth ≤ n) → PyData.depthAll (xs.map F) ≤ n
  | [], _ => by simp [PyData.depthAll]
  | x :: xs, h => by
    have h1 := h x List.mem_cons_self
    have h2 := dep_all F n xs fun y hy => h y (List.mem_cons_of_mem _ hy)
    simp only [List.map_cons, PyData.depthAll]
    omega
theorem nb_all {α : Type} (F : α → PyData) : ∀ xs : List α, (∀ x ∈ xs, nb (F x) = true) → nbAll (xs.map F) = true
  | [], _ => by simp [nbAll]
  | x :: xs, h => by simp [nbAll, h x List.mem_cons_self, nb_all F xs fun y hy => h y (List.mem_cons_of_mem _ hy)]
theorem shL {α : Type} (F : α → PyData) (xs : List α) (n : Nat) (hn : n < 64) (h : ∀ x ∈ xs, (F x).canLay0 = true ∧ (F x).depth ≤ n) : SeqAt.shaped (.list (xs.map F)) = true :=
  shaped_of (by simp [PyData.canLay0, lay_all F xs fun x hx => (h x hx).1]) (by have := dep_all F n xs fun x hx => (h x hx).2; simp only [PyData.depth]; omega)
theorem shT {α : Type} (F : α → PyData) (xs : List α) (n : Nat) (hn : n < 64) (h : ∀ x ∈ xs, (F x).canLay0 = true ∧ (F x).depth ≤ n) : SeqAt.shaped (.tuple (xs.map F)) = true :=
  shaped_of (by simp [PyData.canLay0, lay_all F xs fun x hx => (h x hx).1]) (by have := dep_all F n xs fun x hx => (h x hx).2; simp only [PyData.depth]; omega)
theorem lay_int (i : Int) : (PyData.int i).canLay0 = true ∧ (PyData.int i).depth ≤ 0 := ⟨by simp [PyData.canLay0], by simp [PyData.depth]⟩
theorem lay_bool (b : Bool) : (PyData.bool b).canLay0 = true ∧ (PyData.bool b).depth ≤ 0 := ⟨by simp [PyData.canLay0], by simp [PyData.depth]⟩
theorem lay_tup {ds : List PyData} {n : Nat} (h : ∀ x ∈ ds, x.canLay0 = true ∧ x.depth ≤ n) : (PyData.tuple ds).canLay0 = true ∧ (PyData.tuple ds).depth ≤ n + 1 := by
  have h1 := lay_all id ds fun x hx => (h x hx).1
  have h2 := dep_all id n ds fun x hx => (h x hx).2
  rw [List.map_id] at h1 h2
  exact ⟨by simp [PyData.canLay0, h1], by simp only [PyData.depth]; omega⟩
/-! values to data -/
theorem dp_ints {K : PySem.W.Frag} {H : Hp} : ∀ xs : List Int, DpAll K H (xs.map V.int) (xs.map PyData.int)
  | [] => .nil
  | x :: xs => .cons (.int x) (dp_ints xs)
theorem dp_bls {K : PySem.W.Frag} {H : Hp} : ∀ xs : List Bool, DpAll K H (xs.map V.bl) (xs.map PyData.bool)
  | [] => .nil
  | x :: xs => .cons (.bl x) (dp_bls xs)
theorem tp_ints {H : Hp} : ∀ xs : List Int, TpAll H (xs.map V.int) (xs.map PyData.int)
  | [] => .nil
  | x :: xs => .cons (.int x) (tp_ints xs)
theorem ints_tp {H : Hp} : ∀ {xs : List Int} {vs : List V}, TpAll H vs (xs.map PyData.int) → vs = xs.map V.int
  | [], _, h => by cases h; rfl
  | x :: xs, _, h => by
    cases h with
    | cons h1 h2 =>
      cases h1
      rw [ints_tp h2]
      rfl
theorem tpGet {α : Type} {F : α → PyData} {H : Hp} {us : List V} {xs : List α} {i : Nat} {u : V} (t : TpAll H us (xs.map F)) (e : us[i]? = some u) : ∃ x, xs[i]? = some x ∧ Tp H u (F x) := by
  have hl := t.length
  rw [List.length_map] at hl
  have hi := (List.getElem?_eq_some_iff.mp e).1
  have hx : xs[i]? = some xs[i] := List.getElem?_eq_getElem (by omega)
  obtain ⟨v, e2, tv⟩ := t.get (i := i) (d := F xs[i]) (by rw [List.getElem?_map, hx]; rfl)
  rw [e] at e2
  cases e2
  exact ⟨_, hx, tv⟩
theorem tpAt {α : Type} {F : α → PyData} {H : Hp} {us : List V} {xs : List α} {i : Nat} {x : α} (t : TpAll H us (xs.map F)) (e : xs[i]? = some x) : ∃ u, us[i]? = some u ∧ Tp H u (F x) :=
  t.get (by rw [List.getElem?_map, e]; rfl)
theorem tp3 {H : Hp} {v : V} {d1 d2 d3 : PyData} (h : Tp H v (.tuple [d1, d2, d3])) : ∃ a v1 v2 v3, v = .ref a ∧ H a = some (.tup [v1, v2, v3]) ∧ Tp H v1 d1 ∧ Tp H v2 d2 ∧ Tp H v3 d3 := by
  cases h with
  | tup e r =>
    cases r with | cons h1 r => cases r with | cons h2 r => cases r with | cons h3 r =>
      cases r
      exact ⟨_, _, _, _, rfl, e, h1, h2, h3⟩
theorem tp2 {H : Hp} {v : V} {d1 d2 : PyData} (h : Tp H v (.tuple [d1, d2])) : ∃ a v1 v2, v = .ref a ∧ H a = some (.tup [v1, v2]) ∧ Tp H v1 d1 ∧ Tp H v2 d2 := by
  cases h with
  | tup e r =>
    cases r with | cons h1 r => cases r with | cons h2 r =>
      cases r
      exact ⟨_, _, _, rfl, e, h1, h2⟩
theorem tpL {H : Hp} {v : V} {ds : List PyData} (h : Tp H v (.tuple ds)) : ∃ a vs, v = .ref a ∧ H a = some (.tup vs) ∧ TpAll H vs ds := by
  cases h with
  | tup e r => exact ⟨_, _, rfl, e, r⟩
theorem tpSnoc {H : Hp} {us : List V} {ds : List PyData} {v : V} {d : PyData} (t : TpAll H us ds) (h : Tp H v d) : TpAll H (us ++ [v]) (ds ++ [d]) := by
  induction us generalizing ds with
  | nil => cases t; exact .cons h .nil
  | cons u r ih => cases t with | cons a b => exact .cons a (ih b)
theorem tpApp {H : Hp} {us vs : List V} {ds es : List PyData} (t : TpAll H us ds) (h : TpAll H vs es) : TpAll H (us ++ vs) (ds ++ es) := by
  induction us generalizing ds with
  | nil => cases t; exact h
  | cons u r ih => cases t with | cons a b => exact .cons a (ih b)
theorem tpOf {H : Hp} : ∀ {us : List V} {ds : List PyData}, us.length = ds.length → (∀ (j : Nat) (y : V) (d : PyData), us[j]? = some y → ds[j]? = some d → Tp H y d) → TpAll H us ds
  | [], [], _, _ => .nil
  | [], _ :: _, h, _ => by simp at h
  | _ :: _, [], h, _ => by simp at h
  | u :: us, d :: ds, h, g => .cons (g 0 u d rfl rfl) (tpOf (by simpa using h) fun j y d a b => g (j + 1) y d (by simpa using a) (by simpa using b))
/-- one by one over a range -/
theorem tpOne {P : Nat → V → Hp → Prop} {F : Nat → PyData} {n : Nat} {us : List V} {H : Hp} (o : One P n us H) (h : ∀ j y, j < n → P j y H → Tp H y (F j)) : TpAll H us ((List.range n).map F) :=
  tpOf (by rw [o.1, List.length_map, List.length_range]) fun j y d a b => by
    have hj : j < n := by have := (List.getElem?_eq_some_iff.mp a).1; rw [o.1] at this; exact this
    rw [List.getElem?_map, List.getElem?_range hj] at b
    cases b
    exact h j y hj (o.2 j y a)
/-- tuples of ints -/
def iT (xs : List Int) : PyData := .tuple (xs.map .int)
theorem tpI {H : Hp} {v : V} {xs : List Int} (h : Tp H v (iT xs)) : ∃ a, v = .ref a ∧ H a = some (.tup (xs.map V.int)) := by
  obtain ⟨a, vs, rfl, e, t⟩ := tpL h
  rw [ints_tp t] at e
  exact ⟨a, rfl, e⟩
theorem iT_tp {H : Hp} {a : Addr} {xs : List Int} (e : H a = some (.tup (xs.map V.int))) : Tp H (.ref a) (iT xs) := .tup e (tp_ints xs)
theorem iT_lay (xs : List Int) : (iT xs).canLay0 = true ∧ (iT xs).depth ≤ 1 := lay_tup fun x hx => by
  obtain ⟨i, _, rfl⟩ := List.mem_map.mp hx
  exact lay_int i
theorem nb_int : ∀ xs : List Int, nbAll (xs.map PyData.int) = true
  | [] => rfl
  | x :: xs => by simp [nbAll, nb, nb_int xs]
theorem iT_nb (xs : List Int) : nb (iT xs) = true := by
  show nbAll _ = true
  exact nb_int xs
end WQ
/-! WS: differences and values. -/
namespace WS
open PySem PySem.Spec PyProof.Rows L2 Wy WN WQ
abbrev Df := Int × Int × Int
def dfD (d : Df) : PyData := .tuple [.int d.1, .int d.2.1, .int d.2.2]
theorem dfD_lay (d : Df) : (dfD d).canLay0 = true ∧ (dfD d).depth ≤ 1 := lay_tup (n := 0) fun x hx => by
  simp only [List.mem_cons, List.not_mem_nil, or_false] at hx
  rcases hx with rfl | rfl | rfl <;> exact lay_int _
theorem dfD_nb (d : Df) : nb (dfD d) = true := rfl
/-- the value of a node -/
def lv (vs : List Int) (n : Int) : Int := (0 :: vs).getD n.toNat 0
def kept (vs : List Int) (d : Df) : Bool := decide (lv vs d.1 - lv vs d.2.1 ≤ d.2.2)
def InR (n : Nat) (d : Df) : Prop := 0 ≤ d.1 ∧ d.1 ≤ n ∧ 0 ≤ d.2.1 ∧ d.2.1 ≤ n
theorem lv_at {vs : List Int} {n : Int} (h0 : 0 ≤ n) (h1 : n ≤ vs.length) : ((0 :: vs).map V.int)[n.toNat]? = some (.int (lv vs n)) := by
  have : n.toNat < (0 :: vs).length := by rw [List.length_cons]; omega
  rw [List.getElem?_map, List.getElem?_eq_getElem this]
  unfold lv
  rw [List.getD_eq_getElem?_getD, List.getElem?_eq_getElem this]
  rfl
section
variable {K : PySem.W.Frag} {H : Hp} {Q : VK} {a : Addr} {xs : List V} {x y z : V}
theorem ix_lv {vs : List Int} {n : Int} (hs : SqL K H a ((0 :: vs).map V.int)) (h0 : 0 ≤ n) (h1 : n ≤ vs.length) (h : Q (.int (lv vs n)) H) : rIx K (.ref a) (.int n) H Q := o_ixL hs (atI_of (j := n.toNat) (by omega) (lv_at h0 h1)) h
theorem b_allT (hs : SqL K H a xs) (hx : ∀ (j : Nat) (y : V), xs[j]? = some y → y = .bl true) (h : Q (.bl true) H) : rAll2 K [.ref a] H Q := by
  have e : xs = (List.replicate xs.length true).map V.bl := by
    refine List.ext_getElem? fun j => ?_
    rw [List.getElem?_map, List.getElem?_replicate]
    by_cases hj : j < xs.length
    · rw [if_pos hj, List.getElem?_eq_getElem hj, hx j _ (List.getElem?_eq_getElem hj)]
      rfl
    · rw [if_neg hj, List.getElem?_eq_none (by omega)]
      rfl
  rw [e] at hs
  refine b_all hs ?_
  have : (List.replicate xs.length true).all id = true := by simp
  rw [this]
  exact h
/-- all of truths that are known one by one -/
theorem b_allM {α : Type} {ds : List α} {f : α → Bool} (hs : SqL K H a (ds.map fun d => V.bl (f d))) (h : Q (.bl (ds.all f)) H) : rAll2 K [.ref a] H Q := by
  have e : ds.map (fun d => V.bl (f d)) = (ds.map f).map V.bl := by rw [List.map_map]; rfl
  rw [e] at hs
  refine b_all hs ?_
  have : (ds.map f).all id = ds.all f := by rw [List.all_map]; rfl
  rw [this]
  exact h
theorem b_len0 (hs : SqL K H a []) (h : Q (.int 0) H) : rLn K [.ref a] H Q := b_lenL hs h
theorem b_lenT0 (hs : SqT K H a []) (h : Q (.int 0) H) : rLn K [.ref a] H Q := b_lenT hs h
theorem b_lenT1 (hs : SqT K H a [x]) (h : Q (.int 1) H) : rLn K [.ref a] H Q := b_lenT hs h
theorem b_lenT2 (hs : SqT K H a [x, y]) (h : Q (.int 2) H) : rLn K [.ref a] H Q := b_lenT hs h
theorem b_lenT3 (hs : SqT K H a [x, y, z]) (h : Q (.int 3) H) : rLn K [.ref a] H Q := b_lenT hs h
end
def spIsInt : Sp := fun vs H Q _ => ∃ i : Int, vs = [.int i] ∧ Q (.bl true) H
/-- all differences kept by values -/
def spKept (K : PySem.W.Frag) : Sp := fun vs H Q _ => ∃ (a b : Addr) (us : List V) (ds : List Df) (vals : List Int), vs = [.ref a, .ref b] ∧ Sq K H a us ∧ TpAll H us (ds.map dfD) ∧ H b = some (.lst (vals.map V.int)) ∧ (∀ d ∈ ds, InR vals.length d) ∧
  ds.length ≤ 1000 ∧ vals.length ≤ 900 ∧ ∀ H', Same H H' → Q (.bl (ds.all (kept vals))) H'
end WS
local macro_rules | `(tactic| walk_at "tr") => `(tactic| first | assumption | exact lst_of (by assumption) | exact tup_of (by assumption) | (refine L2.Same.seq (by assumption) ?_; walk_at "tr") | (refine seqT (by assumption) ?_; walk_at "tr"))
local macro_rules | `(tactic| walk_at "s") => `(tactic| with_reducible first
  | refine s_seq ?_ | refine s_asg ?_ | refine g_name ?_ | refine s_ret ?_ | refine s_retN ?_ | refine s_drop ?_ | refine s_if ?_ | refine s_next ?_ | refine s_brk ?_ | refine s_ct ?_ | refine s_for ?_
  | (apply e_var; with_unfolding_all rfl) | refine e_c ?_ | refine e_op ?_ | refine e_un ?_ | refine a_cons ?_ | refine a_nil ?_ | refine c_b ?_ | refine c_call ?_ | refine t_test ?_ | refine k_bl ?_ | refine t_b ?_ | refine t_tr ?_ | refine k_trB ?_ | refine k_trN ?_ | refine k_trI ?_
  | refine t_and ?_ | refine t_or ?_ | refine t_not ?_ | refine e_andV ?_ | refine e_orV ?_ | refine e_notV ?_ | refine e_if ?_ | refine e_chain ?_ | refine e_tup ?_ | refine e_lst ?_ | refine e_sl ?_ | refine p_no ?_ | refine p_so ?_ | refine k_int ?_
  | refine m_bm ?_ | refine g_sub ?_ | refine m_m1 ?_ | refine m_st ?_ | refine e_lc ?_ | refine t_yes ?_ | refine w_r1 ?_ | refine w_r2 ?_ | refine w_l ?_ | refine w_t ?_ | refine w_s ?_ | refine k_s ?_
  | (apply s_aug; with_unfolding_all rfl) | refine i_add ?_ | refine o_addI ?_ | refine o_I0 ?_ | refine b_int ?_ | refine b_intB ?_ | refine b_abs ?_ | refine u_neg ?_ | refine o_isN ?_ | refine o_ntN ?_ | refine o_inS ?_ | refine o_niS ?_
  | refine g_cons ?_ | refine g_nil ?_ | refine e_joined ?_ | refine j_nil ?_ | refine j_cons ?_ | refine e_fmt ?_
  | refine WD.e_dget ?_ | refine WD.s_dput ?_
  | (refine o_mod ?_ ?_; omega) | (refine o_fdiv ?_ ?_ ?_; omega; omega) | (refine o_pow ?_ ?_ ?_ ?_; omega; omega; omega) | (refine o_mulI2 ?_ ?_ ?_; omega; omega) | (refine o_mulI1 ?_ ?_ ?_; omega; omega)
  | (refine WN.o_fdW ?_ ?_ ?_; omega; omega))
local macro_rules | `(tactic| walk_at "ss") => `(tactic| repeat walk_at "s")
local macro_rules | `(tactic| walk_at "ne") => `(tactic| first | assumption | exact Ne.symm (by assumption) | exact WN.ne_new (by assumption) (by walk_at "hp0") | exact Ne.symm (WN.ne_new (by assumption) (by walk_at "hp0")))
local macro_rules | `(tactic| walk_at "hp0") => `(tactic| first | assumption | (refine WN.sm (by assumption) ?_; walk_at "hp0"))
local macro_rules | `(tactic| walk_at "hp") => `(tactic| first | assumption | (refine WN.sm (by assumption) ?_; walk_at "hp") | (refine WN.cm (by assumption) (by walk_at "ne") ?_; walk_at "hp"))
local macro_rules | `(tactic| walk_at "sq") => `(tactic| first | assumption | exact lst_of (by walk_at "hp") | exact tup_of (by walk_at "hp") | (refine L2.Same.seq (by assumption) ?_; walk_at "sq") | (refine seqT (by assumption) ?_; walk_at "sq"))
local macro_rules | `(tactic| walk_at "sa") => `(tactic| first | assumption | exact L2.Same.refl _ | (refine L2.Same.trans ?_ (by assumption); walk_at "sa"))
local macro_rules | `(tactic| walk_at "ty") => `(tactic| first | exact .base (.int _) | exact .base (.bl _) | exact .base .non | exact .base (.str _) | exact .base (.lst (by walk_at "hp")) | exact .base (.tup (by walk_at "hp")))
local macro_rules | `(tactic| walk_at "x") => `(tactic| with_reducible first
  | walk_at "s"
  | (refine n_obj ?_ (fun _ _ _ _ _ => ?_); exact lz (Nat.le_of_ble_eq_true rfl))
  | (apply o_ixT; walk_at "sq"; with_unfolding_all rfl)
  | (apply o_ixL; walk_at "sq"; with_unfolding_all rfl)
  | (apply g_tup; walk_at "sq"; with_unfolding_all rfl)
  | (apply l_L; walk_at "sq"; intro _ _ _ _ _)
  | (refine k_r1 ?_ ?_ ?_; omega; omega)
  | refine WN.b_mx ?_ | refine WN.b_mn ?_
  | (apply k_l; walk_at "sq") | (apply k_t; walk_at "sq")
  | (apply WS.b_lenT2; walk_at "sq") | (apply WS.b_lenT3; walk_at "sq")
  | (apply WN.b_is2 (b := true); walk_at "ty"; exact L2.kit_ty (by decide +kernel)) | (apply WN.b_is2 (b := false); walk_at "ty"; exact L2.kit_ty (by decide +kernel))
  | refine L2.iteT ?_ | refine L2.iteF ?_
  | (refine WN.iteTT ?_ ?_; first | decide +kernel | exact WN.nNRN _ | exact WN.nNIN _ | exact WN.nNSN _ | exact WN.nNBN _)
  | (refine WN.iteFF ?_ ?_; first | decide +kernel | exact WN.nRN _ | exact WN.nIN _ | exact WN.nSN _ | exact WN.nBN _)
  | (refine o_eqS ?_ ?_; with_unfolding_all rfl) | (refine o_neS ?_ ?_; with_unfolding_all rfl))
local macro_rules | `(tactic| walk_at "xx") => `(tactic| repeat walk_at "x")
local macro_rules | `(tactic| walk_at "fr") => `(tactic| first | assumption | exact WN.free_of (by assumption) (by walk_at "sa"))
local macro_rules | `(tactic| walk_at "tp") => `(tactic| first | exact .nil | exact .int _ | exact .bl _ | exact .str _ | exact .non | (refine .cons ?_ ?_ <;> walk_at "tp") | (refine .tup (by walk_at "hp") ?_; walk_at "tp"))
/-! WC: sequences of either kind, and chains. -/
namespace WC
open PySem PySem.Spec PyProof.Rows L2 Wy WN WQ WS
abbrev tStar := StX.tStar
theorem pa_star {X : Cx} {e : Expr} {es : List Expr} {p : Pos} {te : TE} {t : TA} (he : PE X e te) (hr : PA X es t) (hs : starEach (.Starred e p :: es) X.env = (true, eval e X.env) :: starEach es X.env := by rfl) : PA X (.Starred e p :: es) (tStar X.K te t) := StX.pa_star he hr hs
theorem ixN_of {n : Nat} {k : Int} (h0 : 0 ≤ k) (h1 : k < n) : ixN n k = some k.toNat := by
  obtain ⟨j, rfl⟩ : ∃ j : Nat, k = j := ⟨k.toNat, by omega⟩
  rw [ixN_nat (by omega), Int.toNat_natCast]
theorem erase_perm {α : Type} : ∀ {xs : List α} {i : Nat} {x : α}, xs[i]? = some x → (x :: xs.eraseIdx i).Perm xs
  | [], _, _, h => by cases h
  | y :: xs, 0, x, h => by
    cases h
    exact .refl _
  | y :: xs, i + 1, x, h => (List.Perm.swap y x _).trans ((erase_perm (xs := xs) (i := i) h).cons y)
theorem take_sum1 {ws : List Int} {i : Nat} {w : Int} (h : ws[i]? = some w) : (ws.take (i + 1)).sum = (ws.take i).sum + w := by
  rw [List.take_succ, h, List.sum_append]
  simp
theorem nd_inj {α : Type} {xs : List α} {i j : Nat} {x : α} (nd : xs.Nodup) (h1 : xs[i]? = some x) (h2 : xs[j]? = some x) : i = j := by
  have l1 := (List.getElem?_eq_some_iff.mp h1).1
  exact (List.getElem?_inj l1 nd).mp (h1.trans h2.symm)
theorem tpIns {H : Hp} {v : V} {d : PyData} : ∀ {i : Nat} {us : List V} {ds : List PyData}, TpAll H us ds → Tp H v d → TpAll H (us.take i ++ [v] ++ us.drop i) (ds.take i ++ [d] ++ ds.drop i)
  | 0, us, ds, t, h => .cons h t
  | i + 1, _, _, .nil, h => .cons h .nil
  | i + 1, _, _, .cons a b, h => .cons a (tpIns (i := i) b h)
theorem tpTake {H : Hp} : ∀ {i : Nat} {us : List V} {ds : List PyData}, TpAll H us ds → TpAll H (us.take i) (ds.take i)
  | 0, us, ds, t => .nil
  | i + 1, _, _, .nil => .nil
  | i + 1, _, _, .cons a b => .cons a (tpTake (i := i) b)
theorem tpRev {H : Hp} : ∀ {us : List V} {ds : List PyData}, TpAll H us ds → TpAll H us.reverse ds.reverse
  | _, _, .nil => .nil
  | _, _, .cons a b => by
    rw [List.reverse_cons, List.reverse_cons]
    exact tpSnoc (tpRev b) a
section
variable {X : Cx}
theorem pe_bmK {K : PySem.W.Frag} {o e : Expr} {es : List Expr} {to : TE} {t : TA} {name : Str} {apos cpos : Pos} {T id : String} {r : V → List V → Hp → VK → Prop}
    (pa : PlainAttrs T) (slot : Slot T name id) (hty : typeOf (.builtin id) = pure (.type "method_descriptor")) (hm : MtR X id r) (ho : PE X o to) (ha : PA X (e :: es) t) (hK : X.K = K := by rfl)
    (hbase : attributeBase o name X.env (eval o X.env) = eval o X.env := by rfl)
    (hfew : ((backTo cpos (starEach (e :: es) X.env)).all (fun x => !x.1) && (backToKw cpos (keywordEach [] X.env)).all (fun x => x.1.isSome)
      && decide ((e :: es).length + ([] : List Keyword).length + (if ([] : List Keyword).isEmpty then 0 else 1) < 30)) = true := by rfl)
    (hline : (apos.endLine == cpos.line) = true := by rfl) (hs : starEach (e :: es) X.env = (false, eval e X.env) :: starEach es X.env := by rfl) (hplain : (backTo cpos (starEach es X.env)).any (·.1) = false := by rfl) :
    PE X (.Call (.Attribute o name apos) (e :: es) [] cpos) (tBM K T r to t) := hK ▸ pe_bm pa slot hty hm ho ha hbase hfew hline hs hplain
def rSl3 (K : PySem.W.Frag) : V → Option Int → Option Int → Hp → VK → Prop := fun x lo hi H Q => rSl2 K x lo hi H Q ∨ rSlA K x lo hi H Q
theorem sl_3 : SlR X (rSl3 X.K) := sl_2.or sl_tupA
def rIns : V → List V → Hp → VK → Prop := fun x vs H Q => ∃ (l : Addr) (xs : List V) (i : Int) (y : V), x = .ref l ∧ vs = [.int i, y] ∧ H l = some (.lst xs) ∧ xs.length < sizeLine ∧ 0 ≤ i ∧ i < 2 ^ 63 ∧ Q .non (upd H l (.lst (xs.take i.toNat ++ [y] ++ xs.drop i.toNat)))
theorem mt_insert2 : MtR X "list.insert" rIns := mt_insert
end
section
variable {K : PySem.W.Frag} {σ : L2.St} {H : Hp} {Q : VK} {QT : Bool → Hp → Prop} {te : TE} {tr : TA} {v x y : V} {QA : List V → Hp → Prop} {a : Addr} {xs : List V}
def KSt (K : PySem.W.Frag) (x : V) (t : TA) (σ : L2.St) (H : Hp) (QA : List V → Hp → Prop) : Prop := ∃ p xs, x = V.ref p ∧ (SqT K H p xs ∨ SqL K H p xs) ∧ t σ H fun ys H2 => QA (xs ++ ys) H2
theorem a_star (h : te σ H fun x H1 => KSt K x tr σ H1 QA) : tStar K te tr σ H QA := h
theorem k_st (hs : Sq K H a xs) (h : tr σ H fun ys H2 => QA (xs ++ ys) H2) : KSt K (.ref a) tr σ H QA := ⟨a, xs, rfl, hs.symm, h⟩
theorem k_trQ (hs : Sq K H a xs) (h : QT (!xs.isEmpty) H) : KTr K (.ref a) H QT := hs.elim (fun s => k_trL s h) fun s => k_trT s h
theorem b_lenQ (hs : Sq K H a xs) (h : Q (.int xs.length) H) : rLn K [.ref a] H Q := hs.elim (fun s => b_lenL s h) fun s => b_lenT s h
theorem o_ixQ {j : Int} (hs : Sq K H a xs) (e : atI xs j = some v) (h : Q v H) : rIx K (.ref a) (.int j) H Q := hs.elim (fun s => o_ixL s e h) fun s => o_ixT s e h
theorem ix_intQ {ns : List Int} {i : Int} (hs : Sq K H a (ns.map V.int)) (h0 : 0 ≤ i) (h1 : i < ns.length) (h : ∀ x : Int, ns[i.toNat]? = some x → Q (.int x) H) : rIx K (.ref a) (.int i) H Q := by
  have e := List.getElem?_eq_getElem (l := ns) (i := i.toNat) (by omega)
  exact o_ixQ hs (atI_of (j := i.toNat) (by omega) (v := .int ns[i.toNat]) (by rw [List.getElem?_map, e]; rfl)) (h _ e)
theorem m_ins {i : Int} (e : H a = some (.lst xs)) (hz : xs.length < sizeLine) (h0 : 0 ≤ i) (h1 : i ≤ xs.length) (h : ∀ H2, Chg a H H2 → H2 a = some (.lst (xs.take i.toNat ++ [y] ++ xs.drop i.toNat)) → Q .non H2) : rIns (.ref a) [.int i, y] H Q :=
  ⟨a, xs, i, y, rfl, rfl, e, hz, h0, by have : sizeLine = 16777216 := sizeLine_eq; omega, h _ chg_upd upd_same⟩
theorem m_popI {i : Int} (e : H a = some (.lst xs)) (hz : xs.length < sizeLine) (h0 : 0 ≤ i) (h1 : i < xs.length) (g : xs[i.toNat]? = some y) (h : ∀ H2, Chg a H H2 → H2 a = some (.lst (xs.eraseIdx i.toNat)) → Q y H2) : rPopAt (.ref a) [.int i] H Q := by
  have hs : sizeLine = 16777216 := sizeLine_eq
  refine ⟨a, xs, i, i.toNat, y, rfl, rfl, e, by omega, by omega, ?_, g, h _ chg_upd upd_same⟩
  unfold seqIndex?
  have : ¬ i < 0 := by omega
  simp [this, h0, h1]
/-- v[1:] of either kind, walked -/
theorem cut1 (xs : List V) : cutV xs (some 1) none = xs.drop 1 := by
  unfold cutV
  rw [show (1 : Int) = ((1 : Nat) : Int) from rfl, HT.sIx_nat]
  simp [HT.sIx]
  cases xs with
  | nil => rfl
  | cons x r => simp
theorem w_cut1 {b : Addr} {n : V} {r : List V} {i : Nat} {R : It → Hp → Prop} (hs : Sq K H b (n :: r)) (e : σ[i]? = some (some (.ref b))) (h : ∀ J p H2, Same H H2 → SqIt K p r J H2 → R J H2) :
    iSeq K (tSl (rSl3 K) (tVar i) (tPart (tC (.int 1))) tNoPart) σ H R := by
  have e1 : cutV (n :: r) (some 1) none = r := by rw [cut1]; rfl
  rcases hs with hs | hs
  · refine .inl (w_l (e_sl (e_var e (p_so (e_c (k_int (p_no ?_)))))))
    refine .inl (l_L hs fun p H2 np s2 e2 => ?_)
    rw [e1] at e2
    exact k_l (lst_of e2) (h _ p _ s2 (.inl ⟨rfl, lst_of e2⟩))
  · refine .inr (w_t (e_sl (e_var e (p_so (e_c (k_int (p_no ?_)))))))
    refine .inr ⟨b, n :: r, rfl, hs, fun c => ?_, fun _ => new_same (Q := fun x H1 => Wy.KT K x H1 R) fun p H2 np s2 e2 => ?_⟩
    · have := c.1
      rw [show (1 : Int) = ((1 : Nat) : Int) from rfl, HT.sIx_nat, List.length_cons] at this
      omega
    · rw [e1] at e2
      exact k_t (tup_of e2) (h _ p _ s2 (.inr ⟨rfl, tup_of e2⟩))
end
/-! ### chains -/
def dsAt (ds : List Df) (n : Int) : Df := ds.getD n.toNat (0, 0, 0)
def inB (m : Nat) (n : Int) : Bool := decide (0 ≤ n) && decide (n < (m : Int))
def runC : Df → List Df → Option Df
  | t, [] => some t
  | t, d :: r => if d.1 = t.2.1 then runC (t.1, d.2.1, t.2.2 + d.2.2) r else none
def csum (ds : List Df) : List Int → Option Df
  | [] => none
  | n :: r => if (n :: r).all (inB ds.length) = true then runC (dsAt ds n) (r.map (dsAt ds)) else none
def ringB (ds : List Df) (ns : List Int) : Bool := match csum ds ns with
  | none => false
  | some t => decide (t.1 = t.2.1) && decide (t.2.2 < 0)
def floorV (ds : List Df) (ns : List Int) (k : Int) : Option Int := match csum ds ns with
  | none => none
  | some t => if t.1 = 0 ∧ t.2.1 = k then some (-t.2.2) else none
theorem csum_cons {ds : List Df} {n : Int} {r : List Int} : csum ds (n :: r) = if (n :: r).all (inB ds.length) = true then runC (dsAt ds n) (r.map (dsAt ds)) else none := rfl
theorem ringB_none {ds : List Df} {ns : List Int} (e : csum ds ns = none) : ringB ds ns = false := by
  unfold ringB
  rw [e]
theorem ringB_some {ds : List Df} {ns : List Int} {t : Df} (e : csum ds ns = some t) : ringB ds ns = (decide (t.1 = t.2.1) && decide (t.2.2 < 0)) := by
  unfold ringB
  rw [e]
theorem floorV_none {ds : List Df} {ns : List Int} {k : Int} (e : csum ds ns = none) : floorV ds ns k = none := by
  unfold floorV
  rw [e]
theorem floorV_some {ds : List Df} {ns : List Int} {t : Df} {k : Int} (e : csum ds ns = some t) : floorV ds ns k = if t.1 = 0 ∧ t.2.1 = k then some (-t.2.2) else none := by
  unfold floorV
  rw [e]
inductive Path : List Df → Int → Int → Int → Prop
  | nil {u : Int} : Path [] u u 0
  | cons {r : List Df} {u v z c s : Int} : Path r v z s → Path ((u, v, c) :: r) u z (c + s)
theorem Path.app {b : List Df} {z t : Int} : ∀ {a : List Df} {u v s : Int}, Path a u v s → Path b v z t → Path (a ++ b) u z (s + t)
  | _, _, _, _, .nil, h => by
    rw [Int.zero_add]
    exact h
  | _, _, _, _, .cons p, h => by
    rw [Int.add_assoc]
    exact .cons (p.app h)
theorem Path.split {b : List Df} {z : Int} : ∀ {a : List Df} {u s : Int}, Path (a ++ b) u z s → ∃ m s1 s2, Path a u m s1 ∧ Path b m z s2 ∧ s = s1 + s2
  | [], u, s, h => ⟨u, 0, s, .nil, h, by omega⟩
  | d :: a, u, s, h => by
    cases h with
    | cons p =>
      obtain ⟨m, s1, s2, h1, h2, e⟩ := p.split
      exact ⟨m, _, s2, .cons h1, h2, by omega⟩
theorem Path.one {u v c : Int} : Path [(u, v, c)] u v c := by
  have := Path.cons (u := u) (c := c) (Path.nil (u := v))
  rwa [Int.add_zero] at this
theorem run_path {f : Int} : ∀ {es : List Df} {l z s t : Int}, Path es l z s → runC (f, l, t) es = some (f, z, t + s)
  | _, _, _, _, t, .nil => by rw [Int.add_zero]; rfl
  | _, _, _, _, t, .cons p => by
    unfold runC
    rw [if_pos rfl, run_path p]
    simp only [Option.some.injEq, Prod.mk.injEq, true_and]
    omega
theorem csum_path {ds : List Df} {ns : List Int} {u z s : Int} (h : ∀ n ∈ ns, 0 ≤ n ∧ n < ds.length) (p : Path (ns.map (dsAt ds)) u z s) (ne : ns ≠ []) : csum ds ns = some (u, z, s) := by
  cases ns with
  | nil => exact absurd rfl ne
  | cons n r =>
    show (if (n :: r).all (inB ds.length) = true then runC (dsAt ds n) (r.map (dsAt ds)) else none) = _
    rw [if_pos (List.all_eq_true.mpr fun x hx => by
      obtain ⟨h1, h2⟩ := h x hx
      unfold inB
      rw [decide_eq_true h1, decide_eq_true h2]
      rfl)]
    rw [List.map_cons] at p
    generalize dsAt ds n = d at p
    obtain ⟨a, b, c⟩ := d
    cases p with
    | cons p => exact run_path p
theorem kept_path {vs : List Int} : ∀ {es : List Df} {u z s : Int}, Path es u z s → (∀ d ∈ es, kept vs d = true) → lv vs u - lv vs z ≤ s
  | _, _, _, _, .nil, _ => by omega
  | _, u, z, _, .cons (v := v) (c := c) p, h => by
    have h1 := kept_path p fun d hd => h d (List.mem_cons_of_mem _ hd)
    have h2 := of_decide_eq_true (h (u, v, c) List.mem_cons_self)
    simp only at h2
    omega
theorem path_of (nd ws : Nat → Int) : ∀ n : Nat, Path ((List.range n).map fun k => (nd k, nd (k + 1), ws k)) (nd 0) (nd n) (((List.range n).map ws).sum)
  | 0 => .nil
  | n + 1 => by
    rw [List.range_succ, List.map_append, List.map_append, List.sum_append]
    refine (path_of nd ws n).app ?_
    simp only [List.map_cons, List.map_nil, List.sum_cons, List.sum_nil, Int.add_zero]
    exact Path.one
theorem path_rot {es : List Df} {u s : Int} (k : Nat) (p : Path es u u s) : ∃ m, Path (es.drop k ++ es.take k) m m s := by
  rw [← List.take_append_drop k es] at p
  obtain ⟨m, s1, s2, h1, h2, e⟩ := p.split
  refine ⟨m, ?_⟩
  rw [e, Int.add_comm]
  exact h2.app h1
theorem take_sum {ws : List Int} {n : Nat} (h : n ≤ ws.length) : (List.range n).map (fun k => ws.getD k 0) = ws.take n := by
  refine List.ext_getElem? fun j => ?_
  rw [List.getElem?_map, List.getElem?_take]
  by_cases hj : j < n
  · rw [List.getElem?_range hj, if_pos hj, List.getElem?_eq_getElem (by omega)]
    show some (ws.getD j 0) = _
    rw [List.getD_eq_getElem?_getD, List.getElem?_eq_getElem (by omega)]
    rfl
  · rw [List.getElem?_eq_none (by rw [List.length_range]; omega), if_neg hj]
    rfl
section
variable {K : PySem.W.Frag}
/-- the sum of a chain -/
def spChain (K : PySem.W.Frag) : Sp := fun vs H Q _ => ∃ (a b : Addr) (us : List V) (ds : List Df) (ns : List Int), vs = [.ref a, .ref b] ∧ Sq K H a us ∧ TpAll H us (ds.map dfD) ∧ Sq K H b (ns.map V.int) ∧ ds.length ≤ 1000 ∧ ns.length ≤ 1000 ∧
  (csum ds ns = none → ∀ H', Same H H' → Q .non H') ∧ ∀ t : Df, csum ds ns = some t → ∀ p H', Same H H' → H p = none → H' p = some (.tup [.int t.1, .int t.2.1, .int t.2.2]) → Q (.ref p) H'
def spRing (K : PySem.W.Frag) : Sp := fun vs H Q _ => ∃ (a b : Addr) (us : List V) (ds : List Df) (ns : List Int), vs = [.ref a, .ref b] ∧ Sq K H a us ∧ TpAll H us (ds.map dfD) ∧ Sq K H b (ns.map V.int) ∧ ds.length ≤ 1000 ∧ ns.length ≤ 1000 ∧
  ∀ H', Same H H' → Q (.bl (ringB ds ns)) H'
def oI : Option Int → V
  | none => .non
  | some i => .int i
def spFloor (K : PySem.W.Frag) : Sp := fun vs H Q _ => ∃ (a b : Addr) (us : List V) (ds : List Df) (ns : List Int) (k : Int), vs = [.ref a, .ref b, .int k] ∧ Sq K H a us ∧ TpAll H us (ds.map dfD) ∧ Sq K H b (ns.map V.int) ∧ ds.length ≤ 1000 ∧ ns.length ≤ 1000 ∧
  ∀ H', Same H H' → Q (oI (floorV ds ns k)) H'
def spKeeps (K : PySem.W.Frag) : Sp := fun vs H Q _ => ∃ (a b : Addr) (us : List V) (ds : List Df) (vals : List Int), vs = [.ref a, .ref b] ∧ Sq K H a us ∧ TpAll H us (ds.map dfD) ∧ Sq K H b (vals.map V.int) ∧ (∀ d ∈ ds, InR vals.length d) ∧
  ds.length ≤ 1000 ∧ vals.length ≤ 900 ∧ ∀ H', Same H H' → Q (.bl (ds.all (kept vals))) H'
def spTells : Sp := fun vs H Q _ => ∃ x y : Bool, vs = [.bl x, .bl y] ∧ Q (.bl (decide (x = y))) H
def spWt : Sp := fun vs H Q _ => ∃ d : Int, vs = [.int d] ∧ ∀ r : Int, Q (.int r) H
def spDiffs (K : PySem.W.Frag) : Sp := fun vs H Q _ => ∃ (a : Addr) (zs : List Int) (pl : Int) (n m : Nat), vs = [.ref a, .int pl, .int n, .int m] ∧ SqL K H a (zs.map V.int) ∧ n ≤ 100 ∧ m ≤ 1000 ∧
  ∀ p us H' ds, Same H H' → H p = none → H' p = some (.lst us) → TpAll H' us ((ds : List Df).map dfD) → ds.length = n → (∀ d ∈ ds, InR m d) → Q (.ref p) H'
end
end WC
/-! WE: comprehensions of the laws. -/
namespace WE
open PySem PySem.Spec PyProof.Rows L2 Wy WN WQ WS WC
section
variable {K : PySem.W.Frag} {σ : L2.St} {H : Hp} {Q : VK} {te : TE} {vs : List Nat} {i : Nat} {a : Addr}
/-- one value again and again -/
theorem c_const {lo : Int} {n : Nat} {v : V} (hte : ∀ σ H (N : VK), N v H → te σ H N) (hz : n ≤ 100000) (hw : ∀ x, wipe ((wipe σ vs).set i (some x)) vs = wipe σ vs) (post : ∀ D H2, H D = none → Same H H2 → H2 D = some (.lst (List.replicate n v)) → Q (.ref D) H2) :
    LoopC (Itr lo n) (gName i) tYes te vs σ H Q := by
  refine c_accR (One fun _ y _ => y = v) (fun _ _ _ _ _ h => h) (fun i acc H hi h => small1000' (by rw [h.1]; omega)) One.zero (fun j H1 acc N M hj s1 o hN hM => ?_) (fun D H1 ys nD s1 e1 o => ?_)
  · refine g_name ⟨hw _, t_yes ?_⟩
    exact iteTT rfl (hte _ _ _ (hN _ _ (Same.refl _) (o.snoc (fun _ _ h => h) rfl)))
  · rw [o.const] at e1
    exact post D H1 nD s1 e1
theorem c_constI {lo : Int} {n : Nat} {c : Int} (hte : ∀ σ H (N : VK), N (.int c) H → te σ H N) (hz : n ≤ 100000) (hw : ∀ x, wipe ((wipe σ vs).set i (some x)) vs = wipe σ vs) (post : ∀ D H2, H D = none → Same H H2 → H2 D = some (.lst ((List.replicate n c).map V.int)) → Q (.ref D) H2) :
    LoopC (Itr lo n) (gName i) tYes te vs σ H Q := c_const hte hz hw fun D H2 nD s e => post D H2 nD s (by rw [List.map_replicate]; exact e)
/-- an int from each int -/
theorem c_ints {xs : List Int} (hs : SqL K H a (xs.map V.int)) (hte : ∀ (x : Int) H (N : VK), (∀ r : Int, N (.int r) H) → te ((wipe σ vs).set i (some (.int x))) H N) (hz : xs.length ≤ 100000) (hw : ∀ x, wipe ((wipe σ vs).set i (some x)) vs = wipe σ vs)
    (post : ∀ D H2 (rs : List Int), H D = none → Same H H2 → rs.length = xs.length → H2 D = some (.lst (rs.map V.int)) → Q (.ref D) H2) : LoopC (Itl K a) (gName i) tYes te vs σ H Q := by
  refine c_acc (xs := xs.map V.int) (.inl ⟨rfl, hs⟩) (One fun _ y _ => ∃ r : Int, y = .int r) (fun _ _ _ _ _ h => h) (fun i acc H hi h => small1000' (by rw [h.1]; rw [List.length_map] at hi; omega)) One.zero (fun j x H1 acc N M hx s1 o hN hM => ?_) (fun D H1 ys nD s1 e1 o => ?_)
  · rw [List.getElem?_map] at hx
    obtain ⟨d, gd, rfl⟩ := Option.map_eq_some_iff.mp hx
    refine g_name ⟨hw _, t_yes ?_⟩
    exact iteTT rfl (hte _ _ _ fun r => hN _ _ (Same.refl _) (o.snoc (fun _ _ h => h) ⟨r, rfl⟩))
  · rw [List.length_map] at o
    obtain ⟨rs, rfl, lr⟩ := o.ints fun _ _ _ h => h
    exact post D H1 rs nD s1 lr e1
/-- ints by place -/
theorem c_rng {lo : Int} {n : Nat} (F : Nat → Int) (hte : ∀ (j : Nat) H (N : VK), j < n → N (.int (F j)) H → te ((wipe σ vs).set i (some (.int (lo + j)))) H N) (hz : n ≤ 100000) (hw : ∀ x, wipe ((wipe σ vs).set i (some x)) vs = wipe σ vs)
    (post : ∀ D H2, H D = none → Same H H2 → H2 D = some (.lst (((List.range n).map F).map V.int)) → Q (.ref D) H2) : LoopC (Itr lo n) (gName i) tYes te vs σ H Q := by
  refine c_accR (One fun j y _ => y = .int (F j)) (fun _ _ _ _ _ h => h) (fun i acc H hi h => small1000' (by rw [h.1]; omega)) One.zero (fun j H1 acc N M hj s1 o hN hM => ?_) (fun D H1 ys nD s1 e1 o => ?_)
  · refine g_name ⟨hw _, t_yes ?_⟩
    exact iteTT rfl (hte _ _ _ hj (hN _ _ (Same.refl _) (o.snoc (fun _ _ h => h) rfl)))
  · have ey := o.eqR fun j y _ h => h
    rw [ey] at e1
    exact post D H1 nD s1 (by rw [List.map_map]; exact e1)
/-- one datum by place -/
theorem c_tps {lo : Int} {n : Nat} (F : Nat → PyData) (hte : ∀ (j : Nat) H1 (N : VK), j < n → Same H H1 → (∀ y H3, Same H1 H3 → Tp H3 y (F j) → N y H3) → te ((wipe σ vs).set i (some (.int (lo + j)))) H1 N) (hz : n ≤ 100000) (hw : ∀ x, wipe ((wipe σ vs).set i (some x)) vs = wipe σ vs)
    (post : ∀ D H2 us, H D = none → Same H H2 → H2 D = some (.lst us) → TpAll H2 us ((List.range n).map F) → Q (.ref D) H2) : LoopC (Itr lo n) (gName i) tYes te vs σ H Q := by
  refine c_accR (One fun j y H => Tp H y (F j)) (fun i acc H H' k h => ⟨h.1, fun j y e => (h.2 j y e).tk k⟩) (fun i acc H hi h => small1000' (by rw [h.1]; omega)) One.zero (fun j H1 acc N M hj s1 o hN hM => ?_) (fun D H1 ys nD s1 e1 o => ?_)
  · refine g_name ⟨hw _, t_yes ?_⟩
    exact iteTT rfl (hte _ _ _ hj s1 fun y H3 s3 t => hN _ _ s3 (o.snoc (fun _ _ h => h.tk s3.tk) t))
  · exact post D H1 ys nD s1 e1 (tpOne o fun j y _ h => h)
theorem c_rngV {lo : Int} {n : Nat} (F : Nat → V) (hte : ∀ (j : Nat) H (N : VK), j < n → (∀ H3, Same H H3 → N (F j) H3) → te ((wipe σ vs).set i (some (.int (lo + j)))) H N) (hz : n ≤ 100000) (hw : ∀ x, wipe ((wipe σ vs).set i (some x)) vs = wipe σ vs)
    (post : ∀ D H2, H D = none → Same H H2 → H2 D = some (.lst ((List.range n).map F)) → Q (.ref D) H2) : LoopC (Itr lo n) (gName i) tYes te vs σ H Q := by
  refine c_accR (One fun j y _ => y = F j) (fun _ _ _ _ _ h => h) (fun i acc H hi h => small1000' (by rw [h.1]; omega)) One.zero (fun j H1 acc N M hj s1 o hN hM => ?_) (fun D H1 ys nD s1 e1 o => ?_)
  · refine g_name ⟨hw _, t_yes ?_⟩
    exact iteTT rfl (hte _ _ _ hj (fun H3 s3 => hN _ _ s3 (o.snoc (fun _ _ h => h) rfl)))
  · have ey := o.eqR fun j y _ h => h
    rw [ey] at e1
    exact post D H1 nD s1 e1
def KRev (K : PySem.W.Frag) (x : V) (H : Hp) (Q : VK) : Prop := ∃ a xs, x = V.ref a ∧ SqL K H a xs ∧ ∀ p, H p = none → Q (.ref p) (upd H p (.lst xs.reverse))
theorem e_revL (h : te σ H fun x H1 => KRev K x H1 Q) : tRevL K te σ H Q := h
theorem k_rev {xs : List V} (e : H a = some (.lst xs)) (h : ∀ p H2, H p = none → Same H H2 → H2 p = some (.lst xs.reverse) → Q (.ref p) H2) : KRev K (.ref a) H Q := ⟨a, xs, rfl, lst_of e, new_same h⟩
theorem ix_pick {c : Bool} {u v : V} (e : H a = some (.lst [u, v])) (h : Q (if c then v else u) H) : rIx K (.ref a) (.int (if c = true then 1 else 0)) H Q := by
  cases c with
  | true => exact o_ixL (lst_of e) (v := v) rfl h
  | false => exact o_ixL (lst_of e) (v := u) rfl h
theorem o_isB {a b : Bool} (h : Q (.bl (decide (a = b))) H) : rIsB (.bl a) (.bl b) H Q := ⟨a, b, rfl, rfl, h⟩
theorem o_ntB {a b : Bool} (h : Q (.bl (!decide (a = b))) H) : rNotB (.bl a) (.bl b) H Q := ⟨a, b, rfl, rfl, h⟩
theorem cutTo (xs : List V) {i : Int} (h : 0 ≤ i) : cutV xs none (some i) = xs.take i.toNat := by
  obtain ⟨k, rfl⟩ : ∃ k : Nat, i = k := ⟨i.toNat, by omega⟩
  unfold cutV
  rw [HT.sIx_nat, HT.sIx_none, List.drop_zero, Nat.sub_zero, Int.toNat_natCast]
  by_cases hk : k ≤ xs.length
  · rw [Nat.min_eq_left hk]
  · rw [Nat.min_eq_right (by omega), List.take_of_length_le (Nat.le_refl _), List.take_of_length_le (by omega)]
theorem cutFrom (xs : List V) {i : Int} (h : 0 ≤ i) : cutV xs (some i) none = xs.drop i.toNat := by
  obtain ⟨k, rfl⟩ : ∃ k : Nat, i = k := ⟨i.toNat, by omega⟩
  unfold cutV
  rw [HT.sIx_nat, HT.sIx_none, Int.toNat_natCast]
  by_cases hk : k ≤ xs.length
  · rw [Nat.min_eq_left hk, List.take_of_length_le (by rw [List.length_drop]; omega)]
  · rw [Nat.min_eq_right (by omega), List.drop_of_length_le (Nat.le_refl _), List.drop_of_length_le (by omega)]
    simp
theorem ne_ints {H : Hp} {a b v : Addr} {rs : List V} {xs : List Int} (h1 : H a = some (.lst (.ref v :: rs))) (h2 : H b = some (.lst (xs.map V.int))) : b ≠ a := by
  intro e
  subst e
  rw [h1] at h2
  cases xs <;> cases h2
end
end WE
/-! WO: instances of own classes. -/
namespace WO
open PySem PySem.Spec PyProof.Rows L2 Wy WN WQ
/-- a method of a class of the top -/
structure MetOk (K : PySem.W.Frag) (C m qual : Str) (st : Stmt) : Prop where
  ex : ∃ f fd, FunD K m qual (defArgs st) (defBody st) (defScope st) [] [] f fd ∧ Meth K (He.ga K C) m f
structure MakOk (K : PySem.W.Frag) (mg : Str → Option Value) (C qual : Str) (st : Stmt) : Prop where
  ex : ∃ f fd, FunD K "__init__" qual (defArgs st) (defBody st) (defScope st) [] [] f fd ∧ Mk K (He.ga K C) f ∧ mg C = some (.ref (He.ga K C))
section
variable {P : Program} {w : World} {K : PySem.W.Frag} {mg : Str → Option Value} {base : Heap} {C m qual : Str} {st : Stmt} {N ps : List Str} {k : Nat} {sp : Sp}
theorem met_of (F : MetOk K C m qual st) (cl : Cls K (He.ga K C)) (S : FnScope N ps (defScope st)) (hb : ∀ f fd, FunD K m qual (defArgs st) (defBody st) (defScope st) [] [] f fd → Binds K fd ps []) (len : ∀ vs H Q E, sp vs H Q E → vs.length = ps.length)
    (body : ∀ (f : Addr) (cdv : Value) (A : Around) (outer : List Env) (s : Shared) (H : Hp) (vs : List V) (Q : VK) (E : XK), Room k (A.deeper (envOfC qual (defScope st) s.heap.objs.size f cdv)) → sp vs H Q E →
      ∃ t, PSs (cxOf CX0 P w K mg base N qual (defScope st) f cdv A outer s H E).nox (defBody st) t ∧ t { nx := fun _ H' => Q .non H', rt := Q } (start N vs) H) : C8.Met P w K mg base (k + 1) (He.ga K C) m sp [] := by
  obtain ⟨f, fd, F, hm⟩ := F.ex
  refine ⟨f, fd, ps, [], cl, hm, F.ok S len fun cdv A outer s H vs Q E hr h => ?_, hb f fd F, .nil⟩
  obtain ⟨t, h1, h2⟩ := body f cdv A outer s H vs Q E hr h
  exact ⟨t, PSs.nox h1, h2⟩
theorem mak_of (F : MakOk K mg C qual st) (S : FnScope N ps (defScope st)) (hb : ∀ f fd, FunD K "__init__" qual (defArgs st) (defBody st) (defScope st) [] [] f fd → Binds K fd ps []) (len : ∀ vs H Q E, sp vs H Q E → vs.length = ps.length)
    (body : ∀ (f : Addr) (cdv : Value) (A : Around) (outer : List Env) (s : Shared) (H : Hp) (vs : List V) (Q : VK) (E : XK), Room k (A.deeper (envOfC qual (defScope st) s.heap.objs.size f cdv)) → sp vs H Q E →
      ∃ t, PSs (cxOf CX0 P w K mg base N qual (defScope st) f cdv A outer s H E).nox (defBody st) t ∧ t { nx := fun _ H' => Q .non H', rt := Q } (start N vs) H) : C8.Mak P w K mg base (k + 1) C (He.ga K C) sp [] := by
  obtain ⟨f, fd, F, hm, hg⟩ := F.ex
  refine ⟨f, fd, ps, [], hm, F.ok S len fun cdv A outer s H vs Q E hr h => ?_, hg, hb f fd F, .nil⟩
  obtain ⟨t, h1, h2⟩ := body f cdv A outer s H vs Q E hr h
  exact ⟨t, PSs.nox h1, h2⟩
end
section
variable {X : Cx}
theorem pe_fldK {K : PySem.W.Frag} {e : Expr} {f : Str} {pos : Pos} {ta : TE} (he : PE X e ta) (hK : X.K = K := by rfl) (hb : attributeBase e f X.env (eval e X.env) = eval e X.env := by rfl) : PE X (.Attribute e f pos) (tFld K ta f) := hK ▸ pe_fld he hb
theorem ps_fldK {K : PySem.W.Frag} {o value : Expr} {f : Str} {pos pos' : Pos} {ta tv : TE} (ha : PE X o ta) (hv : PE X value tv) (hK : X.K = K := by rfl) (hs : swapsWith value (some (.Attribute o f pos')) pos.line X.env = pure false := by rfl) :
    PS X (.Assign [.Attribute o f pos'] value pos) (sFld K ta tv f) := hK ▸ ps_fld ha hv hs
theorem ps_fldaugK {K : PySem.W.Frag} {o value : Expr} {f : Str} {pos pos' : Pos} {ta tv : TE} {op : Operator} {rd : V → V → Hp → VK → Prop} (ha : PE X o ta) (hv : PE X value tv) (hop : InOp X op rd) (hK : X.K = K := by rfl) :
    PS X (.AugAssign (.Attribute o f pos') op value pos) (sFldAug K ta tv rd f) := hK ▸ ps_fldaug ha hv hop
end
section
variable {K : PySem.W.Frag} {σ : L2.St} {H : Hp} {Q : VK} {D : Ends} {te ta tv : TE} {tl : TA} {v x y : V} {a C dx : Addr} {fs : List (Str × V)} {f m : Str} {sp : Sp} {dvs : List V} {E : XK}
def KFld (K : PySem.W.Frag) (f : Str) (x : V) (H : Hp) (Q : VK) : Prop := ∃ a C dx fs v, x = V.ref a ∧ H a = some (.ins C dx fs) ∧ Cls K C ∧ NoAttr K C f ∧ fs.lookup f = some v ∧ Q v H
theorem e_fld (h : te σ H fun x H1 => KFld K f x H1 Q) : tFld K te f σ H Q := h
theorem k_fld (e : H a = some (.ins C dx fs)) (c : Cls K C) (n : NoAttr K C f) (l : fs.lookup f = some v) (h : Q v H) : KFld K f (.ref a) H Q := ⟨a, C, dx, fs, v, rfl, e, c, n, l, h⟩
def KFldS (K : PySem.W.Frag) (f : Str) (y : V) (D : Ends) (σ : L2.St) (x : V) (H : Hp) : Prop := ∃ a C dx fs, x = V.ref a ∧ H a = some (.ins C dx fs) ∧ Cls K C ∧ NoAttr K C f ∧ fs.length < 1000 ∧ D.nx σ (upd H a (.ins C dx (putF f y fs)))
theorem s_fld (h : tv σ H fun y H1 => ta σ H1 fun x H2 => KFldS K f y D σ x H2) : sFld K ta tv f D σ H := h
theorem k_fldS (e : H a = some (.ins C dx fs)) (c : Cls K C) (n : NoAttr K C f) (l : fs.length < 1000) (h : ∀ H2, Chg a H H2 → H2 a = some (.ins C dx (putF f y fs)) → D.nx σ H2) : KFldS K f y D σ (.ref a) H := ⟨a, C, dx, fs, rfl, e, c, n, l, h _ chg_upd upd_same⟩
theorem s_fldaug {i : Nat} {j c : Int} (ev : σ[i]? = some (some (.ref a))) (e : H a = some (.ins C dx fs)) (cl : Cls K C) (n : NoAttr K C f) (l : fs.lookup f = some (.int j)) (sm : fs.length < 1000) (h : ∀ H2, Chg a H H2 → H2 a = some (.ins C dx (putF f (.int (j + c)) fs)) → D.nx σ H2) :
    sFldAug K (tVar i) (tC (.int c)) rAdd f D σ H := ⟨.ref a, ev, a, C, dx, fs, .int j, rfl, e, cl, n, l, j, c, rfl, rfl, dx, fs, e, sm, h _ chg_upd upd_same⟩
theorem l_tup {xs : List V} {lo hi : Option Int} (e : H a = some (.tup xs)) (nw : ¬ (HT.sIx xs.length 0 lo = 0 ∧ HT.sIx xs.length xs.length hi = xs.length)) (h : ∀ p H2, H p = none → Same H H2 → H2 p = some (.tup (cutV xs lo hi)) → Q (.ref p) H2) : rSlA K (.ref a) lo hi H Q :=
  ⟨a, xs, rfl, tup_of e, fun z => absurd z nw, fun _ => new_same h⟩
def rBool : List V → Hp → VK → Prop := fun xs H Q => (∃ i, xs = [.int i] ∧ Q (.bl (i != 0)) H) ∨ ∃ k, xs = [.bl k] ∧ Q (.bl k) H
theorem call_bool2 {X : Cx} : CallR X (.type "bool") rBool := call_bool1
theorem b_boolB {b : Bool} (h : Q (.bl b) H) : rBool [.bl b] H Q := .inr ⟨b, rfl, h⟩
theorem o_tup0 {x : V} {xs : List V} (e : H a = some (.tup (x :: xs))) (h : Q x H) : rIx K (.ref a) (.int 0) H Q := o_ixT (tup_of e) (atI_nat (j := 0) rfl) h
theorem o_tup1 {x y : V} {xs : List V} (e : H a = some (.tup (x :: y :: xs))) (h : Q y H) : rIx K (.ref a) (.int 1) H Q := o_ixT (tup_of e) (atI_nat (j := 1) rfl) h
def KMeth (C : Addr) (m : Str) (sp : Sp) (dvs : List V) (E : XK) (t : TA) (σ : L2.St) (x : V) (H : Hp) (Q : VK) : Prop := ∃ a dx fs, x = V.ref a ∧ H a = some (.ins C dx fs) ∧ fs.lookup m = none ∧ t σ H fun vs H2 => sp (x :: (vs ++ dvs)) H2 Q E
theorem e_meth (h : te σ H fun x H1 => KMeth C m sp dvs E tl σ x H1 Q) : tMeth C m sp dvs E te tl σ H Q := h
theorem k_meth (e : H a = some (.ins C dx fs)) (l : fs.lookup m = none) (h : tl σ H fun vs H2 => sp (.ref a :: (vs ++ dvs)) H2 Q E) : KMeth C m sp dvs E tl σ (.ref a) H Q := ⟨a, dx, fs, rfl, e, l, h⟩
def KMake (C : Addr) (sp : Sp) (dvs : List V) (E : XK) (vs : List V) (H1 : Hp) (Q : VK) : Prop := ∀ x dx, H1 x = none → H1 dx = none → dx ≠ x → sp (.ref x :: (vs ++ dvs)) (upd (upd H1 dx (.own x)) x (.ins C dx [])) (fun v H2 => v = .non ∧ Q (.ref x) H2) E
theorem e_make (h : tl σ H fun vs H1 => KMake C sp dvs E vs H1 Q) : tMake C sp dvs E tl σ H Q := h
theorem k_make {vs : List V} (h : ∀ x dx H2, H x = none → H dx = none → dx ≠ x → Same H H2 → H2 x = some (.ins C dx []) → H2 dx = some (.own x) → sp (.ref x :: (vs ++ dvs)) H2 (fun v H3 => v = .non ∧ Q (.ref x) H3) E) : KMake C sp dvs E vs H Q := fun x dx nx nd ne =>
  h x dx _ nx nd ne (fun b o e => by rw [upd_ne (ne_of_none e nx), upd_ne (ne_of_none e nd)]; exact e) upd_same (by rw [upd_ne ne]; exact upd_same)
end
section
variable {K : PySem.W.Frag} {H : Hp} {Q : VK} {a b : Addr} {xs ys : List V}
theorem o_catT (ha : H a = some (.tup xs)) (hb : H b = some (.tup ys)) (hz : xs.length + ys.length ≤ sizeLine) (h : ∀ p H2, Same H H2 → H2 p = some (.tup (xs ++ ys)) → Q (.ref p) H2) : rCatA K (.ref a) (.ref b) H Q := by
  refine ⟨a, b, xs, ys, rfl, rfl, tup_of ha, tup_of hb, hz, fun e => h _ _ (Same.refl _) ?_, fun _ e => h _ _ (Same.refl _) ?_, fun _ _ => new_same fun p H2 _ s e => h _ _ s e⟩
  · rw [e, List.nil_append]
    exact hb
  · rw [e, List.append_nil]
    exact ha
end
/-! ### walks of any kind -/
section
variable {K : PySem.W.Frag} {σ : L2.St} {H : Hp} {Q : VK} {D : Ends} {t : TS} {te : TE} {tt : TT} {g : TG} {vs : List Nat} {J : It} {n : Nat} {G : Hp → Prop} {Y : Nat → Hp → V → Hp → Prop} {tl : TA}
theorem f_it (w : Walk J n G Y) (Pv : Nat → L2.St → Hp → Prop) (h0 : Pv 0 σ H) (hG : ∀ i σ H, i ≤ n → Pv i σ H → G H)
    (hs : ∀ i x σ H H', i < n → Pv i σ H → Y i H x H' → g x σ H' fun σ2 H2 => t ⟨Pv (i + 1), D.rt, D.nx, Pv (i + 1)⟩ σ2 H2) (hd : ∀ σ H, Pv n σ H → D.nx σ H) : LoopF J g t D σ H := for_it w Pv h0 hG hs hd
/-- a comprehension: what is taken so far, kept while only the new list changes -/
theorem c_it (w : Walk J n G Y) (R : Addr → Nat → List V → Hp → Prop) (hG : ∀ H', Same H H' → G H') (hY : ∀ i H1 x H2, Y i H1 x H2 → Same H1 H2) (small : n < sizeLine) (len : ∀ D i acc H1, R D i acc H1 → acc.length ≤ i)
    (mono : ∀ D i acc H1 H2, Chg D H1 H2 → (∃ ys, H1 D = some (.lst ys)) → R D i acc H1 → R D i acc H2) (r0 : ∀ D H1, H D = none → Same H H1 → H1 D = some (.lst []) → R D 0 [] H1)
    (step : ∀ D i x H1 H2 acc (N : VK) (M : Hp → Prop), i < n → H D = none → Same H H1 → H1 D = some (.lst acc) → R D i acc H1 → Y i H1 x H2 → Same H1 H2 → (∀ y H3, Same H2 H3 → R D (i + 1) (acc ++ [y]) H3 → N y H3) → (∀ H3, Same H2 H3 → R D (i + 1) acc H3 → M H3) →
      g x (wipe σ vs) H2 fun σ2 H2 => wipe σ2 vs = wipe σ vs ∧ tt σ2 H2 fun b H3 => if b = true then te σ2 H3 N else M H3)
    (post : ∀ D H2 ys, H D = none → Same H H2 → H2 D = some (.lst ys) → R D n ys H2 → Q (.ref D) H2) : LoopC J g tt te vs σ H Q := by
  intro D nD
  refine lc_it w (fun i H1 => Same H H1 ∧ ∃ acc, H1 D = some (.lst acc) ∧ R D i acc H1) ⟨same_new nD, [], upd_same, r0 D _ nD (same_new nD) upd_same⟩ (fun i H1 _ p => hG _ p.1) (fun i x H1 H2 hi p y => ?_) (fun H1 ⟨s1, acc, e1, r1⟩ => post D H1 acc nD s1 e1 r1)
  obtain ⟨s1, acc, e1, r1⟩ := p
  have s2 := hY _ _ _ _ y
  refine step D i x H1 H2 acc _ _ hi nD s1 e1 r1 y s2 (fun y H3 s3 r3 => ?_) (fun H3 s3 r3 => ⟨s1.trans (s2.trans s3), acc, s3 _ _ (s2 _ _ e1), r3⟩)
  have e3 := s3 _ _ (s2 _ _ e1)
  refine ⟨acc, e3, by have := len D i acc H1 r1; omega, (chg_upd (p := D)).same (s1.trans (s2.trans s3)) nD, _, upd_same, mono D _ _ _ _ chg_upd ⟨_, e3⟩ r3⟩
theorem yat_same {xs : List V} {i : Nat} {H1 H2 : Hp} {x : V} (y : YAt xs i H1 x H2) : Same H1 H2 := by
  rw [y.1]
  exact Same.refl _
theorem ypair_same {f1 f2 : Nat → Option V} {i : Nat} {H1 H2 : Hp} {x : V} (y : YPair f1 f2 i H1 x H2) : Same H1 H2 := by
  obtain ⟨T, a, b, rfl, h, rfl, _⟩ := y
  exact same_new h
/-- new lists by place -/
theorem c_rows {lo : Int} {i : Nat} (F : Nat → List V) (hte : ∀ (j : Nat) H1 (N : VK), j < n → Same H H1 → (∀ r H3, Same H1 H3 → H1 r = none → H3 r = some (.lst (F j)) → N (.ref r) H3) → te ((wipe σ vs).set i (some (.int (lo + j)))) H1 N) (hz : n ≤ 100000) (hw : ∀ x, wipe ((wipe σ vs).set i (some x)) vs = wipe σ vs)
    (post : ∀ D H2 (rs : List Addr), H D = none → Same H H2 → H2 D = some (.lst (rs.map V.ref)) → rs.length = n → (∀ (j : Nat) (r : Addr), rs[j]? = some r → H r = none ∧ H2 r = some (.lst (F j))) → Q (.ref D) H2) : LoopC (Itr lo n) (gName i) tYes te vs σ H Q := by
  refine c_it (walk_range (lo := lo) (n := n)) (fun D i acc H4 => acc.length = i ∧ ∀ (j : Nat) (y : V), acc[j]? = some y → ∃ r, y = .ref r ∧ r ≠ D ∧ H r = none ∧ H4 r = some (.lst (F j))) (fun _ _ => True.intro) (fun i H1 x H2 y => by rw [y.1]; exact Same.refl _) (small1000' hz)
    (fun D i acc H1 o => Nat.le_of_eq o.1) (fun D i acc H5 H6 c ⟨ys, e⟩ o => ⟨o.1, fun j y g => ?_⟩) (fun D H4 nD s e => ⟨rfl, fun j y g => by cases g⟩) (fun D j xx H4 H5 acc N M' hi nD s4 eD o y s5 hN hM => ?_) (fun D H4 ys nD s4 e4 o => ?_)
  · obtain ⟨r, rfl, hr, hr0, f⟩ := o.2 j y g
    exact ⟨r, rfl, hr, hr0, c.at f hr⟩
  · obtain ⟨rfl, rfl⟩ := y
    refine g_name ⟨hw _, t_yes ?_⟩
    refine iteTT rfl (hte j _ _ hi s4 fun r H6 s6 n6 e6 => ?_)
    refine hN _ _ s6 ⟨by rw [List.length_append, o.1]; rfl, fun k y g => ?_⟩
    by_cases hj : k < acc.length
    · rw [List.getElem?_append_left hj] at g
      obtain ⟨r1, rfl, hr, hr0, f⟩ := o.2 k y g
      exact ⟨r1, rfl, hr, hr0, s6 _ _ f⟩
    · have hj2 := (List.getElem?_eq_some_iff.mp g).1
      rw [List.length_append, List.length_singleton] at hj2
      have : k = acc.length := by omega
      subst this
      rw [List.getElem?_append_right (Nat.le_refl _), Nat.sub_self] at g
      cases g
      refine ⟨r, rfl, fun e => ?_, s4.free n6, by rw [o.1]; exact e6⟩
      subst e
      rw [eD] at n6
      cases n6
  · obtain ⟨rs, rfl⟩ : ∃ rs : List Addr, ys = rs.map V.ref := by
      have : ∀ ys : List V, (∀ y ∈ ys, ∃ r, y = .ref r) → ∃ rs : List Addr, ys = rs.map V.ref := by
        intro ys
        induction ys with
        | nil => exact fun _ => ⟨[], rfl⟩
        | cons y r ih =>
          intro h
          obtain ⟨i, rfl⟩ := h y List.mem_cons_self
          obtain ⟨xs, rfl⟩ := ih fun z hz => h z (List.mem_cons_of_mem _ hz)
          exact ⟨i :: xs, rfl⟩
      exact this ys fun y hy => by
        obtain ⟨j, hj, e⟩ := List.getElem_of_mem hy
        obtain ⟨r, h, _⟩ := o.2 j y (by rw [List.getElem?_eq_getElem hj, e])
        exact ⟨r, h⟩
    have lr := o.1
    rw [List.length_map] at lr
    refine post D H4 rs nD s4 e4 lr fun j r g => ?_
    obtain ⟨r', h, _, h2, h3⟩ := o.2 j (.ref r) (by rw [List.getElem?_map, g]; rfl)
    cases h
    exact ⟨h2, h3⟩
theorem w_zip {R : It → Hp → Prop} (h : tl σ H fun vs H1 => ∃ a b xs ys, vs = [.ref a, .ref b] ∧ SqL K H1 a xs ∧ SqL K H1 b ys ∧ R (Itz K a b) H1) : iZip K tl σ H R := h
theorem w_enum {R : It → Hp → Prop} (h : tl σ H fun vs H1 => ∃ a xs, vs = [.ref a] ∧ SqL K H1 a xs ∧ R (Ite K a) H1) : iEnum K tl σ H R := h
end
end WO
local macro_rules | `(tactic| walk_at "x") => `(tactic| with_reducible first
  | refine WO.e_fld ?_ | refine WO.s_fld ?_ | refine WO.e_meth ?_ | refine WO.e_make ?_ | refine WC.a_star ?_ | refine WE.e_revL ?_ | (apply WE.k_rev; walk_at "hp"; intro _ _ _ _ _)
  | (apply WO.k_fld; walk_at "hp"; assumption; assumption; with_unfolding_all rfl)
  | (apply WO.k_meth; walk_at "hp"; with_unfolding_all rfl)
  | refine WO.b_boolB ?_ | (apply WO.o_tup0; walk_at "hp") | (apply WO.o_tup1; walk_at "hp") | refine WO.w_zip ?_ | refine WO.w_enum ?_)
/-! WT: tables of bounds. -/
namespace WT
open PySem PySem.Spec PyProof.Rows L2 Wy WN WQ WS WC
abbrev Cell := Option (Int × List Int)
def cellD : Cell → PyData
  | none => .none
  | some p => .tuple [.int p.1, iT p.2]
def joinC (a b : Int × List Int) : Int × List Int := (a.1 + b.1, a.2 ++ b.2)
def shorter (old : Cell) (th : Int × List Int) : Cell → Cell
  | none => old
  | some r => match old with
    | some o => if o.1 ≤ th.1 + r.1 then some o else some (joinC th r)
    | none => some (joinC th r)
theorem shorter_some {o th r : Int × List Int} : shorter (some o) th (some r) = if o.1 ≤ th.1 + r.1 then some o else some (joinC th r) := rfl
def rowStep (known : List Cell) (before : Cell) (step : Int × List Int) (behind : List Cell) : List Cell := match before with
  | none => known
  | some b => (known.zip behind).map fun p => shorter p.1 (joinC b step) p.2
abbrev Tab := List (List Cell)
def cell (M : Tab) (i j : Nat) : Cell := (M.getD i []).getD j none
def bring (M : Tab) (u v : Nat) (step : Int × List Int) : Tab := M.map fun known => rowStep known (known.getD u none) step (M.getD v [])
def Sq2 (M : Tab) (n : Nat) : Prop := M.length = n + 1 ∧ ∀ row ∈ M, row.length = n + 1
/-- the ring that a difference closes -/
def ringOf (M : Tab) (d : Df) : Option (List Int) := match cell M d.2.1.toNat d.1.toNat with
  | some b => if d.2.2 + b.1 < 0 then some b.2 else none
  | none => none
def tieM (M : Tab) (d : Df) (k : Nat) : Tab := match cell M d.1.toNat d.2.1.toNat with
  | some h => if d.2.2 < h.1 then bring M d.1.toNat d.2.1.toNat (d.2.2, [(k : Int)]) else M
  | none => bring M d.1.toNat d.2.1.toNat (d.2.2, [(k : Int)])
def tab0 (n : Nat) : Tab := (List.range (n + 1)).map fun u => (List.range (n + 1)).map fun v => if v = u then some (0, []) else none
theorem cell_at {M : Tab} {n i j : Nat} (h : Sq2 M n) (hi : i ≤ n) (hj : j ≤ n) : ∃ row, M[i]? = some row ∧ row[j]? = some (cell M i j) := by
  have h1 : i < M.length := by rw [h.1]; omega
  have h2 := h.2 _ (List.getElem_mem h1)
  refine ⟨M[i], List.getElem?_eq_getElem h1, ?_⟩
  unfold cell
  rw [List.getD_eq_getElem?_getD (l := M), List.getElem?_eq_getElem h1]
  show M[i][j]? = some (M[i].getD j none)
  rw [List.getD_eq_getElem?_getD, List.getElem?_eq_getElem (by omega)]
  rfl
theorem row_of {M : Tab} {n i : Nat} (h : Sq2 M n) (hi : i ≤ n) : M[i]? = some (M.getD i []) := by
  have h1 : i < M.length := by rw [h.1]; omega
  rw [List.getD_eq_getElem?_getD, List.getElem?_eq_getElem h1]
  rfl
theorem tab0_sq (n : Nat) : Sq2 (tab0 n) n := by
  refine ⟨by simp [tab0], fun row hr => ?_⟩
  obtain ⟨u, _, rfl⟩ := List.mem_map.mp hr
  simp
theorem tab0_cell {n i j : Nat} (hi : i ≤ n) (hj : j ≤ n) : cell (tab0 n) i j = if j = i then some (0, []) else none := by
  unfold cell tab0
  rw [List.getD_eq_getElem?_getD (l := List.map _ _) (i := i), List.getElem?_map, List.getElem?_range (by omega)]
  show ((List.range (n + 1)).map _).getD j none = _
  rw [List.getD_eq_getElem?_getD, List.getElem?_map, List.getElem?_range (by omega)]
  rfl
theorem rowStep_len {known behind : List Cell} {before : Cell} {step : Int × List Int} (h : known.length = behind.length) : (rowStep known before step behind).length = known.length := by
  unfold rowStep
  cases before with
  | none => rfl
  | some b => simp; omega
theorem bring_sq {M : Tab} {n u v : Nat} {step : Int × List Int} (h : Sq2 M n) (hv : v ≤ n) : Sq2 (bring M u v step) n := by
  refine ⟨by unfold bring; rw [List.length_map]; exact h.1, fun row hr => ?_⟩
  obtain ⟨known, hk, rfl⟩ := List.mem_map.mp hr
  have h1 := h.2 _ hk
  have h2 := h.2 _ (List.mem_of_getElem? (row_of h hv))
  rw [rowStep_len (by omega)]
  exact h1
theorem bring_cell {M : Tab} {n u v i j : Nat} {step : Int × List Int} (h : Sq2 M n) (hu : u ≤ n) (hv : v ≤ n) (hi : i ≤ n) (hj : j ≤ n) :
    cell (bring M u v step) i j = match cell M i u with | none => cell M i j | some b => shorter (cell M i j) (joinC b step) (cell M v j) := by
  obtain ⟨row, g1, g2⟩ := cell_at h hi hj
  obtain ⟨_, g3, g4⟩ := cell_at h hi hu
  obtain ⟨rv, g5, g6⟩ := cell_at h hv hj
  rw [g1] at g3
  cases g3
  have gu : row.getD u none = cell M i u := by rw [List.getD_eq_getElem?_getD, g4]; rfl
  have ge : (bring M u v step)[i]? = some (rowStep row (cell M i u) step rv) := by
    unfold bring
    rw [List.getElem?_map, g1, List.getD_eq_getElem?_getD (l := M), g5]
    show some (rowStep row (row.getD u none) step rv) = _
    rw [gu]
  unfold cell
  rw [List.getD_eq_getElem?_getD (l := bring M u v step), ge]
  show (rowStep row (cell M i u) step rv).getD j none = _
  show _ = match cell M i u with | none => cell M i j | some b => shorter (cell M i j) (joinC b step) (cell M v j)
  unfold rowStep
  cases cell M i u with
  | none =>
    show row.getD j none = _
    rw [List.getD_eq_getElem?_getD, g2]
    rfl
  | some b =>
    show ((row.zip rv).map _).getD j none = _
    rw [List.getD_eq_getElem?_getD, List.getElem?_map, show (row.zip rv)[j]? = some (cell M i j, cell M v j) from List.getElem?_zip_eq_some.mpr ⟨g2, g6⟩]
    rfl
/-! ### bounds alone -/
def relax (b x : Option Int) (c : Int) (y : Option Int) : Option Int := match x, y with
  | some x, some y => (match b with
    | some o => if o ≤ x + c + y then some o else some (x + c + y)
    | none => some (x + c + y))
  | _, _ => b
abbrev bd (M : Tab) (i j : Nat) : Option Int := (cell M i j).map (·.1)
theorem bring_bd {M : Tab} {n u v i j : Nat} {step : Int × List Int} (h : Sq2 M n) (hu : u ≤ n) (hv : v ≤ n) (hi : i ≤ n) (hj : j ≤ n) : bd (bring M u v step) i j = relax (bd M i j) (bd M i u) step.1 (bd M v j) := by
  unfold bd
  rw [bring_cell h hu hv hi hj]
  cases cell M i u with
  | none => rfl
  | some b =>
    cases cell M v j with
    | none => cases cell M i j <;> rfl
    | some r =>
      cases cell M i j with
      | none => rfl
      | some o =>
        show (shorter (some o) (joinC b step) (some r)).map _ = (if o.1 ≤ b.1 + step.1 + r.1 then _ else _)
        show (shorter (some o) (joinC b step) (some r)).map _ = (if o.1 ≤ (joinC b step).1 + r.1 then some o.1 else some ((joinC b step).1 + r.1))
        rw [shorter_some]
        by_cases q : o.1 ≤ (joinC b step).1 + r.1
        · rw [if_pos q, if_pos q]
          rfl
        · rw [if_neg q, if_neg q]
          rfl
/-- closed: the ground of all bounds -/
structure Cl (n : Nat) (B : Nat → Nat → Option Int) : Prop where
  diag : ∀ i, i ≤ n → B i i = some 0
  tri : ∀ i k j x y, i ≤ n → k ≤ n → j ≤ n → B i k = some x → B k j = some y → ∃ z, B i j = some z ∧ z ≤ x + y
theorem relax_le {b x y : Option Int} {c z : Int} (h : relax b x c y = some z) : b = some z ∨ ∃ p q, x = some p ∧ y = some q ∧ z = p + c + q := by
  unfold relax at h
  cases x with
  | none => exact .inl h
  | some p =>
    cases y with
    | none => exact .inl h
    | some q =>
      cases b with
      | none => exact .inr ⟨p, q, rfl, rfl, (Option.some.inj h).symm⟩
      | some o =>
        have h : (if o ≤ p + c + q then some o else some (p + c + q)) = some z := h
        split at h
        · exact .inl h
        · exact .inr ⟨p, q, rfl, rfl, (Option.some.inj h).symm⟩
theorem relax_old {x y : Option Int} {c o : Int} : ∃ z, relax (some o) x c y = some z ∧ z ≤ o := by
  unfold relax
  cases x with
  | none => exact ⟨o, rfl, Int.le_refl _⟩
  | some p =>
    cases y with
    | none => exact ⟨o, rfl, Int.le_refl _⟩
    | some q =>
      show ∃ z, (if o ≤ p + c + q then some o else some (p + c + q)) = some z ∧ z ≤ o
      split
      · exact ⟨o, rfl, Int.le_refl _⟩
      · exact ⟨_, rfl, by omega⟩
theorem relax_new {b : Option Int} {c p q : Int} : ∃ z, relax b (some p) c (some q) = some z ∧ z ≤ p + c + q := by
  unfold relax
  cases b with
  | none => exact ⟨_, rfl, Int.le_refl _⟩
  | some o =>
    show ∃ z, (if o ≤ p + c + q then some o else some (p + c + q)) = some z ∧ z ≤ p + c + q
    split
    · exact ⟨o, rfl, by assumption⟩
    · exact ⟨_, rfl, Int.le_refl _⟩
/-- a path by old bounds, made shorter -/
theorem Cl.relax {n u v : Nat} {c : Int} {B : Nat → Nat → Option Int} (h : Cl n B) (hu : u ≤ n) (hv : v ≤ n) (hc : ∀ b, B v u = some b → 0 ≤ c + b) : Cl n fun i j => WT.relax (B i j) (B i u) c (B v j) := by
  refine ⟨fun i hi => ?_, fun i k j x y hi hk hj hx hy => ?_⟩
  · obtain ⟨z, e, le⟩ := relax_old (x := B i u) (y := B v i) (c := c) (o := 0)
    show WT.relax (B i i) _ _ _ = _
    rw [h.diag i hi]
    rcases relax_le e with e2 | ⟨p, q, e2, e3, e4⟩
    · rw [e]
      exact e2.symm
    · obtain ⟨b, e5, le2⟩ := h.tri v i u q p hv hi hu e3 e2
      have := hc b e5
      rw [e]
      exact congrArg some (by omega)
  · show ∃ z, WT.relax (B i j) (B i u) c (B v j) = some z ∧ _
    rcases relax_le hx with e1 | ⟨p, q, e1, e2, e3⟩ <;> rcases relax_le hy with f1 | ⟨p', q', f1, f2, f3⟩
    · obtain ⟨z, g1, g2⟩ := h.tri i k j x y hi hk hj e1 f1
      rw [g1]
      obtain ⟨z', g3, g4⟩ := relax_old (x := B i u) (y := B v j) (c := c) (o := z)
      exact ⟨z', g3, by omega⟩
    · obtain ⟨a, g1, g2⟩ := h.tri i k u x p' hi hk hu e1 f1
      rw [g1, f2]
      obtain ⟨z', g3, g4⟩ := relax_new (b := B i j) (c := c) (p := a) (q := q')
      exact ⟨z', g3, by omega⟩
    · obtain ⟨a, g1, g2⟩ := h.tri v k j q y hv hk hj e2 f1
      rw [g1, e1]
      obtain ⟨z', g3, g4⟩ := relax_new (b := B i j) (c := c) (p := p) (q := a)
      exact ⟨z', g3, by omega⟩
    · obtain ⟨b, g1, g2⟩ := h.tri v k u q p' hv hk hu e2 f1
      have := hc b g1
      rw [e1, f2]
      obtain ⟨z', g3, g4⟩ := relax_new (b := B i j) (c := c) (p := p) (q := q')
      exact ⟨z', g3, by omega⟩
/-- what is not shorter brings nothing -/
theorem Cl.idle {n u v i j : Nat} {c g : Int} {B : Nat → Nat → Option Int} (h : Cl n B) (hu : u ≤ n) (hv : v ≤ n) (hi : i ≤ n) (hj : j ≤ n) (hg : B u v = some g) (hc : g ≤ c) : WT.relax (B i j) (B i u) c (B v j) = B i j := by
  unfold WT.relax
  cases e1 : B i u with
  | none => rfl
  | some p =>
    cases e2 : B v j with
    | none => rfl
    | some q =>
      obtain ⟨a, f1, f2⟩ := h.tri i u v p g hi hu hv e1 hg
      obtain ⟨z, f3, f4⟩ := h.tri i v j a q hi hv hj f1 e2
      rw [f3]
      show (if z ≤ p + c + q then some z else _) = _
      rw [if_pos (by omega)]
theorem tie_bd {M : Tab} {n i j k : Nat} {d : Df} (h : Sq2 M n) (hc : Cl n (bd M)) (hd : InR n d) (hi : i ≤ n) (hj : j ≤ n) : bd (tieM M d k) i j = relax (bd M i j) (bd M i d.1.toNat) d.2.2 (bd M d.2.1.toNat j) := by
  obtain ⟨h0, h1, h2, h3⟩ := hd
  have hu : d.1.toNat ≤ n := by omega
  have hv : d.2.1.toNat ≤ n := by omega
  unfold tieM
  cases e : cell M d.1.toNat d.2.1.toNat with
  | none => exact bring_bd h hu hv hi hj
  | some g =>
    show bd (if d.2.2 < g.1 then _ else M) i j = _
    split
    · exact bring_bd h hu hv hi hj
    · exact (hc.idle hu hv hi hj (g := g.1) (by show (cell M _ _).map _ = _; rw [e]; rfl) (by omega)).symm
theorem tie_sq {M : Tab} {n k : Nat} {d : Df} (h : Sq2 M n) (hd : InR n d) : Sq2 (tieM M d k) n := by
  obtain ⟨h0, h1, h2, h3⟩ := hd
  unfold tieM
  cases e : cell M d.1.toNat d.2.1.toNat with
  | none => exact bring_sq h (by omega)
  | some g =>
    show Sq2 (if d.2.2 < g.1 then _ else M) n
    split
    · exact bring_sq h (by omega)
    · exact h
theorem ring_none {M : Tab} {d : Df} (h : ringOf M d = none) : ∀ b, bd M d.2.1.toNat d.1.toNat = some b → 0 ≤ d.2.2 + b := by
  intro b hb
  unfold bd at hb
  unfold ringOf at h
  cases e : cell M d.2.1.toNat d.1.toNat with
  | none =>
    rw [e] at hb
    cases hb
  | some g =>
    rw [e] at hb h
    have hb : g.1 = b := Option.some.inj hb
    have h : (if d.2.2 + g.1 < 0 then some g.2 else none) = none := h
    split at h
    · cases h
    · omega
/-- lengths -/
def Short (M : Tab) (L : Nat) : Prop := ∀ row ∈ M, ∀ c, some c ∈ row → c.2.length ≤ L
theorem shorter_len {L : Nat} {old rest : Cell} {th : Int × List Int} {c : Int × List Int} (h1 : ∀ c, old = some c → c.2.length ≤ L) (h2 : ∀ r, rest = some r → th.2.length + r.2.length ≤ L) (h : shorter old th rest = some c) : c.2.length ≤ L := by
  unfold shorter at h
  cases rest with
  | none => exact h1 c h
  | some r =>
    have := h2 r rfl
    cases old with
    | none =>
      cases h
      simp only [joinC, List.length_append]
      omega
    | some o =>
      have h : (if o.1 ≤ th.1 + r.1 then some o else some (joinC th r)) = some c := h
      split at h
      · exact h1 c h
      · cases h
        simp only [joinC, List.length_append]
        omega
theorem bring_short {M : Tab} {u v : Nat} {c k : Int} {L : Nat} (h : Short M L) : Short (bring M u v (c, [k])) (2 * L + 1) := by
  intro row hr x hx
  obtain ⟨known, hk, rfl⟩ := List.mem_map.mp hr
  unfold rowStep at hx
  cases e : known.getD u none with
  | none =>
    rw [e] at hx
    have := h known hk x hx
    omega
  | some b =>
    rw [e] at hx
    have hb : b.2.length ≤ L := h known hk b (by
      rw [List.getD_eq_getElem?_getD] at e
      cases e2 : known[u]? with
      | none =>
        rw [e2] at e
        cases e
      | some y =>
        rw [e2] at e
        have e : y = some b := e
        rw [← e]
        exact List.mem_of_getElem? e2)
    obtain ⟨⟨o, r⟩, hp, e2⟩ := List.mem_map.mp hx
    have ho := (List.of_mem_zip hp).1
    have hr := (List.of_mem_zip hp).2
    refine shorter_len (fun c hc => ?_) (fun c hc => ?_) e2
    · have := h known hk c (hc ▸ ho)
      omega
    · have hm : M.getD v [] ∈ M := by
        rw [List.getD_eq_getElem?_getD] at hr ⊢
        cases e3 : M[v]? with
        | none =>
          rw [e3] at hr
          cases hr
        | some y => exact List.mem_of_getElem? e3
      have := h _ hm c (hc ▸ hr)
      simp only [joinC, List.length_append, List.length_singleton]
      omega
theorem tie_short {M : Tab} {d : Df} {k L : Nat} (h : Short M L) : Short (tieM M d k) (2 * L + 1) := by
  have h' : Short M (2 * L + 1) := fun r hr c hc => by have := h r hr c hc; omega
  unfold tieM
  cases e : cell M d.1.toNat d.2.1.toNat with
  | none => exact bring_short h
  | some g =>
    show Short (if d.2.2 < g.1 then _ else M) _
    split
    · exact bring_short h
    · exact h'
/-! ### a System in the heap -/
structure Spot where
  dx : Addr
  dl : Addr
  tp : Addr
  rs : List Addr
def RowAt (H : Hp) (r : Addr) (row : List Cell) : Prop := ∃ cs, H r = some (.lst cs) ∧ TpAll H cs (row.map cellD)
abbrev sysFs (S : Spot) (n : Nat) : List (Str × V) := [("many", .int n), ("differences", .ref S.dl), ("_table", .ref S.tp)]
structure SysAt (K : PySem.W.Frag) (H : Hp) (x : Addr) (S : Spot) (n : Nat) (ds : List Df) (M : Tab) : Prop where
  ins : H x = some (.ins (He.ga K "System") S.dx (sysFs S n))
  diffs : ∃ us, H S.dl = some (.lst us) ∧ TpAll H us (ds.map dfD)
  tab : H S.tp = some (.lst (S.rs.map V.ref))
  len : S.rs.length = M.length
  rows : ∀ (i : Nat) (r : Addr) (row : List Cell), S.rs[i]? = some r → M[i]? = some row → RowAt H r row
  ap1 : S.dl ∉ S.rs
  ap2 : S.dl ≠ S.tp
  sq : Sq2 M n
/-- what stands, but for some places -/
def KeepBut (A : List Addr) (H H' : Hp) : Prop := ∀ b o, b ∉ A → H b = some o → H' b = some o
theorem KeepBut.refl {A : List Addr} {H : Hp} : KeepBut A H H := fun _ _ _ e => e
theorem KeepBut.trans {A : List Addr} {H H1 H2 : Hp} (h : KeepBut A H H1) (k : KeepBut A H1 H2) : KeepBut A H H2 := fun b o n e => k b o n (h b o n e)
theorem Same.but {A : List Addr} {H H1 : Hp} (s : Same H H1) : KeepBut A H H1 := fun b o _ e => s b o e
theorem Chg.but {A : List Addr} {p : Addr} {H H1 : Hp} (c : Chg p H H1) (h : p ∈ A) : KeepBut A H H1 := fun b o n e => c.at e (fun q => n (q ▸ h))
theorem KeepBut.mono {A B : List Addr} {H H1 : Hp} (h : KeepBut A H H1) (s : ∀ a ∈ A, a ∈ B) : KeepBut B H H1 := fun b o n e => h b o (fun q => n (s b q)) e
/-- not a tuple -/
def noTup : HO → Bool
  | .tup _ => false
  | _ => true
theorem KeepBut.tk {A : List Addr} {H H1 : Hp} (h : KeepBut A H H1) (ht : ∀ a ∈ A, ∃ o, H a = some o ∧ noTup o = true) : TK H H1 := fun a xs e => h a _ (fun q => by
  obtain ⟨o, e2, n⟩ := ht a q
  rw [e] at e2
  cases e2
  cases n) e
theorem SysAt.keep {K : PySem.W.Frag} {H H' : Hp} {x : Addr} {S : Spot} {n : Nat} {ds : List Df} {M : Tab} (s : SysAt K H x S n ds M) {A : List Addr} (k : KeepBut A H H') (tk : TK H H') (h1 : x ∉ A) (h2 : S.dl ∉ A) (h3 : S.tp ∉ A) (h4 : ∀ r ∈ S.rs, r ∉ A) : SysAt K H' x S n ds M := by
  obtain ⟨us, e1, t1⟩ := s.diffs
  refine ⟨k _ _ h1 s.ins, ⟨us, k _ _ h2 e1, t1.tk tk⟩, k _ _ h3 s.tab, s.len, fun i r row hr hm => ?_, s.ap1, s.ap2, s.sq⟩
  obtain ⟨cs, e2, t2⟩ := s.rows i r row hr hm
  exact ⟨cs, k _ _ (h4 r (List.mem_of_getElem? hr)) e2, t2.tk tk⟩
theorem SysAt.same {K : PySem.W.Frag} {H H' : Hp} {x : Addr} {S : Spot} {n : Nat} {ds : List Df} {M : Tab} (s : SysAt K H x S n ds M) (k : Same H H') : SysAt K H' x S n ds M :=
  s.keep (A := []) (Same.but k) k.tk (by simp) (by simp) (by simp) (by simp)
theorem SysAt.get {K : PySem.W.Frag} {H : Hp} {x : Addr} {S : Spot} {n : Nat} {ds : List Df} {M : Tab} (s : SysAt K H x S n ds M) {u : Nat} (hu : u ≤ n) : ∃ r cs, S.rs[u]? = some r ∧ H r = some (.lst cs) ∧ TpAll H cs ((M.getD u []).map cellD) ∧ cs.length = n + 1 := by
  have hm := row_of s.sq hu
  have hl := s.sq.2 _ (List.mem_of_getElem? hm)
  have h1 : u < S.rs.length := by rw [s.len, s.sq.1]; omega
  obtain ⟨cs, e, t⟩ := s.rows u S.rs[u] _ (List.getElem?_eq_getElem h1) hm
  refine ⟨_, cs, List.getElem?_eq_getElem h1, e, t, ?_⟩
  rw [t.length, List.length_map]
  exact hl
theorem row_cell {H : Hp} {M : Tab} {n u v : Nat} {cs : List V} (hq : Sq2 M n) (hu : u ≤ n) (hv : v ≤ n) (t : TpAll H cs ((M.getD u []).map cellD)) : ∃ y, cs[v]? = some y ∧ Tp H y (cellD (cell M u v)) := by
  obtain ⟨row, g1, g2⟩ := cell_at hq hu hv
  have : M.getD u [] = row := by rw [List.getD_eq_getElem?_getD, g1]; rfl
  rw [this] at t
  exact tpAt t g2
theorem cellN {H : Hp} {y : V} {c : Cell} (t : Tp H y (cellD c)) (e : c = none) : y = .non := by
  subst e
  cases t
  rfl
theorem cellS {H : Hp} {y : V} {c : Cell} {p : Int × List Int} (t : Tp H y (cellD c)) (e : c = some p) : ∃ a b, y = .ref a ∧ H a = some (.tup [.int p.1, .ref b]) ∧ H b = some (.tup (p.2.map V.int)) := by
  subst e
  obtain ⟨a, v1, v2, rfl, e, t1, t2⟩ := WQ.tp2 (show Tp H y (.tuple [.int p.1, iT p.2]) from t)
  cases t1
  obtain ⟨b, rfl, e2⟩ := tpI t2
  exact ⟨a, b, rfl, e, e2⟩
theorem cellT {H : Hp} {a b : Addr} {p : Int × List Int} (e : H a = some (.tup [.int p.1, .ref b])) (e2 : H b = some (.tup (p.2.map V.int))) : Tp H (.ref a) (cellD (some p)) := .tup e (.cons (.int _) (.cons (iT_tp e2) .nil))
theorem refs_of {ys : List V} (h : ∀ (j : Nat) (y : V), ys[j]? = some y → ∃ r, y = .ref r) : ∃ rs : List Addr, ys = rs.map V.ref := by
  have : ∀ ys : List V, (∀ y ∈ ys, ∃ r, y = .ref r) → ∃ rs : List Addr, ys = rs.map V.ref := by
    intro ys
    induction ys with
    | nil => exact fun _ => ⟨[], rfl⟩
    | cons y r ih =>
      intro h
      obtain ⟨i, rfl⟩ := h y List.mem_cons_self
      obtain ⟨xs, rfl⟩ := ih fun z hz => h z (List.mem_cons_of_mem _ hz)
      exact ⟨i :: xs, rfl⟩
  refine this ys fun y hy => ?_
  obtain ⟨j, hj, e⟩ := List.getElem_of_mem hy
  exact h j y (by rw [List.getElem?_eq_getElem hj, e])
/-! ### promises -/
section
variable {K : PySem.W.Frag}
def spSysInit (K : PySem.W.Frag) : Sp := fun vs H Q _ => ∃ (x dx : Addr) (n : Nat), vs = [.ref x, .int n] ∧ H x = some (.ins (He.ga K "System") dx []) ∧ n ≤ 1000 ∧
  ∀ H' S, KeepBut [x] H H' → SysAt K H' x S n [] (tab0 n) → S.dx = dx → H S.dl = none → H S.tp = none → (∀ r ∈ S.rs, H r = none) → Q .non H'
def spBound (K : PySem.W.Frag) : Sp := fun vs H Q _ => ∃ (x : Addr) (S : Spot) (n : Nat) (ds : List Df) (M : Tab) (u v : Int), vs = [.ref x, .int u, .int v] ∧ SysAt K H x S n ds M ∧ 0 ≤ u ∧ u ≤ n ∧ 0 ≤ v ∧ v ≤ n ∧ Q (oI (bd M u.toNat v.toNat)) H
def spTie (K : PySem.W.Frag) : Sp := fun vs H Q _ => ∃ (x : Addr) (d : V) (S : Spot) (n : Nat) (ds : List Df) (M : Tab) (df : Df) (L : Nat), vs = [.ref x, d] ∧ SysAt K H x S n ds M ∧ Tp H d (dfD df) ∧ InR n df ∧ ds.length ≤ 1000 ∧ n ≤ 1000 ∧ Short M L ∧ 2 * L + 1 ≤ 5000000 ∧
  (∀ bs, ringOf M df = some bs → ∀ p H', KeepBut [S.dl] H H' → H p = none → H' p = some (.tup (((ds.length : Int) :: bs).map V.int)) → Q (.ref p) H') ∧
  (ringOf M df = none → ∀ H' S', KeepBut [x, S.dl] H H' → SysAt K H' x S' n (ds ++ [df]) (tieM M df ds.length) → S'.dx = S.dx → S'.dl = S.dl → (S'.tp = S.tp ∨ H S'.tp = none) → (∀ r ∈ S'.rs, r ∈ S.rs ∨ H r = none) → Q .non H')
def spBring (K : PySem.W.Frag) : Sp := fun vs H Q _ => ∃ (x st : Addr) (S : Spot) (n : Nat) (ds : List Df) (M : Tab) (u v : Int) (p : Int × List Int) (L : Nat), vs = [.ref x, .int u, .int v, .ref st] ∧ SysAt K H x S n ds M ∧ Tp H (.ref st) (cellD (some p)) ∧ 0 ≤ u ∧ u ≤ n ∧ 0 ≤ v ∧ v ≤ n ∧ n ≤ 1000 ∧ Short M L ∧ 2 * L + p.2.length ≤ 5000000 ∧
  ∀ H' S', KeepBut [x] H H' → SysAt K H' x S' n ds (bring M u.toNat v.toNat p) → S'.dx = S.dx → S'.dl = S.dl → H S'.tp = none → (∀ r ∈ S'.rs, r ∈ S.rs ∨ H r = none) → Q .non H'
def spRowS (K : PySem.W.Frag) : Sp := fun vs H Q _ => ∃ (r bh : Addr) (bf st : V) (cs ks : List V) (row behind : List Cell) (before : Cell) (p : Int × List Int) (L : Nat), vs = [.ref r, bf, st, .ref bh] ∧ H r = some (.lst cs) ∧ TpAll H cs (row.map cellD) ∧ Tp H bf (cellD before) ∧ Tp H st (cellD (some p)) ∧
  H bh = some (.lst ks) ∧ TpAll H ks (behind.map cellD) ∧ row.length = behind.length ∧ row.length ≤ 2000 ∧ (∀ c, before = some c → c.2.length ≤ L) ∧ (∀ c, some c ∈ behind → c.2.length ≤ L) ∧ 2 * L + p.2.length ≤ 5000000 ∧
  ∀ q H' cs', Same H H' → H' q = some (.lst cs') → TpAll H' cs' ((rowStep row before p behind).map cellD) → (q = r ∨ H q = none) → Q (.ref q) H'
def spJoin (K : PySem.W.Frag) : Sp := fun vs H Q _ => ∃ (x y : V) (a b : Int × List Int), vs = [x, y] ∧ Tp H x (cellD (some a)) ∧ Tp H y (cellD (some b)) ∧ a.2.length + b.2.length ≤ 6000000 ∧ ∀ p H', Same H H' → Tp H' p (cellD (some (joinC a b))) → Q p H'
def spShorter (K : PySem.W.Frag) : Sp := fun vs H Q _ => ∃ (x y z : V) (old rest : Cell) (a : Int × List Int), vs = [x, y, z] ∧ Tp H x (cellD old) ∧ Tp H y (cellD (some a)) ∧ Tp H z (cellD rest) ∧ (∀ c, rest = some c → a.2.length + c.2.length ≤ 6000000) ∧ ∀ p H', Same H H' → Tp H' p (cellD (shorter old a rest)) → Q p H'
def spRaised (K : PySem.W.Frag) : Sp := fun vs H Q _ => ∃ (a b e : Addr) (zs : List Int) (us : List V) (ds : List Df) (vals : List Int), vs = [.ref a, .ref b, .ref e] ∧ SqL K H a (zs.map V.int) ∧ H b = some (.lst us) ∧ TpAll H us (ds.map dfD) ∧ H e = some (.lst (vals.map V.int)) ∧ (∀ d ∈ ds, InR vals.length d) ∧ ds.length ≤ 900 ∧ vals.length ≤ 900 ∧
  ∀ p H' us' ds', Same H H' → H p = none → H' p = some (.lst us') → TpAll H' us' ((ds' : List Df).map dfD) → ds'.length = ds.length → (∀ d ∈ ds', InR vals.length d) → Q (.ref p) H'
/-! ### matrices of bounds -/
structure MatAt (H : Hp) (p : Addr) (rs : List Addr) (n : Nat) (B : Nat → Nat → Option Int) : Prop where
  tab : H p = some (.lst (rs.map V.ref))
  len : rs.length = n + 1
  rows : ∀ (i : Nat) (r : Addr), rs[i]? = some r → H r = some (.lst ((List.range (n + 1)).map fun j => oI (B i j)))
theorem MatAt.same {H H' : Hp} {p : Addr} {rs : List Addr} {n : Nat} {B : Nat → Nat → Option Int} (m : MatAt H p rs n B) (s : Same H H') : MatAt H' p rs n B := ⟨s _ _ m.tab, m.len, fun i r g => s _ _ (m.rows i r g)⟩
theorem MatAt.keep {H H' : Hp} {p : Addr} {rs : List Addr} {n : Nat} {B : Nat → Nat → Option Int} (m : MatAt H p rs n B) {A : List Addr} (k : KeepBut A H H') (h1 : p ∉ A) (h2 : ∀ r ∈ rs, r ∉ A) : MatAt H' p rs n B := ⟨k _ _ h1 m.tab, m.len, fun i r g => k _ _ (h2 r (List.mem_of_getElem? g)) (m.rows i r g)⟩
theorem MatAt.cong {H : Hp} {p : Addr} {rs : List Addr} {n : Nat} {B B' : Nat → Nat → Option Int} (m : MatAt H p rs n B) (h : ∀ i j, i ≤ n → j ≤ n → B i j = B' i j) : MatAt H p rs n B' := ⟨m.tab, m.len, fun i r g => by
  have hi := (List.getElem?_eq_some_iff.mp g).1
  have hl := m.len
  rw [m.rows i r g]
  refine congrArg (fun z => some (HO.lst z)) (List.map_congr_left fun j hj => ?_)
  rw [h i j (by omega) (by have := List.mem_range.mp hj; omega)]⟩
theorem ix_mat {K : PySem.W.Frag} {H : Hp} {Q : VK} {p : Addr} {rs : List Addr} {n : Nat} {B : Nat → Nat → Option Int} (m : MatAt H p rs n B) {i : Int} (h0 : 0 ≤ i) (h1 : i ≤ n) (h : ∀ r, rs[i.toNat]? = some r → H r = some (.lst ((List.range (n + 1)).map fun j => oI (B i.toNat j))) → Q (.ref r) H) : rIx K (.ref p) (.int i) H Q := by
  have hl := m.len
  have g := List.getElem?_eq_getElem (l := rs) (i := i.toNat) (by omega)
  exact o_ixL (lst_of m.tab) (atI_of (j := i.toNat) (by omega) (v := .ref rs[i.toNat]) (by rw [List.getElem?_map, g]; rfl)) (h _ g (m.rows _ _ g))
theorem ix_row {K : PySem.W.Frag} {H : Hp} {Q : VK} {r : Addr} {n : Nat} {F : Nat → Option Int} (e : H r = some (.lst ((List.range (n + 1)).map fun j => oI (F j)))) {i : Int} (h0 : 0 ≤ i) (h1 : i ≤ n) (h : Q (oI (F i.toNat)) H) : rIx K (.ref r) (.int i) H Q :=
  o_ixL (lst_of e) (atI_of (j := i.toNat) (by omega) (by rw [List.getElem?_map, List.getElem?_range (by omega)]; rfl)) h
theorem mat_of {H : Hp} {p : Addr} {rs : List Addr} {n : Nat} {B : Nat → Nat → Option Int} (e : H p = some (.lst (rs.map V.ref))) (l : rs.length = n + 1) (h : ∀ (i : Nat) (r : Addr), rs[i]? = some r → H r = some (.lst ((List.range (n + 1)).map fun j => oI (B i j)))) : MatAt H p rs n B := ⟨e, l, h⟩
theorem tab0_bd {n i j : Nat} (hi : i ≤ n) (hj : j ≤ n) : bd (tab0 n) i j = if i = j then some 0 else none := by
  unfold bd
  rw [tab0_cell hi hj]
  by_cases h : i = j
  · rw [if_pos h, if_pos h.symm]
    rfl
  · rw [if_neg h, if_neg (fun e => h e.symm)]
    rfl
theorem tab0_cl (n : Nat) : Cl n (bd (tab0 n)) := ⟨fun i hi => by rw [tab0_bd hi hi, if_pos rfl], fun i k j x y hi hk hj hx hy => by
  rw [tab0_bd hi hk] at hx
  rw [tab0_bd hk hj] at hy
  split at hx
  · split at hy
    · cases hx
      cases hy
      refine ⟨0, ?_, by omega⟩
      rw [tab0_bd hi hj, if_pos (by omega)]
    · cases hy
  · cases hx⟩
theorem tab0_short (n : Nat) : Short (tab0 n) 0 := fun row hr c hc => by
  obtain ⟨u, _, rfl⟩ := List.mem_map.mp hr
  obtain ⟨v, _, e⟩ := List.mem_map.mp hc
  split at e
  · cases e
    exact Nat.le_refl _
  · cases e
theorem tie_cl {M : Tab} {n k : Nat} {d : Df} (h : Sq2 M n) (hc : Cl n (bd M)) (hd : InR n d) (hr : ringOf M d = none) : Cl n (bd (tieM M d k)) := by
  have := hc.relax (u := d.1.toNat) (v := d.2.1.toNat) (c := d.2.2) (by have := hd.2.1; omega) (by have := hd.2.2.2; omega) (ring_none hr)
  exact ⟨fun i hi => by rw [tie_bd h hc hd hi hi]; exact this.diag i hi, fun i k j x y hi hk hj hx hy => by
    rw [tie_bd h hc hd hi hk] at hx
    rw [tie_bd h hc hd hk hj] at hy
    rw [tie_bd h hc hd hi hj]
    exact this.tri i k j x y hi hk hj hx hy⟩
def spJoinM : Sp := fun vs H Q _ => ∃ (a : Addr) (d : V) (rs : List Addr) (n : Nat) (B : Nat → Nat → Option Int) (df : Df), vs = [.ref a, d] ∧ MatAt H a rs n B ∧ Tp H d (dfD df) ∧ InR n df ∧ n ≤ 1000 ∧
  ∀ p H' rs', Same H H' → H p = none → (∀ r ∈ rs', H r = none) → MatAt H' p rs' n (fun i j => relax (B i j) (B i df.1.toNat) df.2.2 (B df.2.1.toNat j)) → Q (.ref p) H'
end
end WT
/-! WG: defs that run while no repr is under way. -/
namespace WG
open PySem PySem.Spec PyProof.Rows L2 Wy WN WQ
/-- as FnOk, but from callers alone in which no repr is under way -/
structure FnG (P : Program) (w : World) (K : PySem.W.Frag) (mg : Str → Option Value) (base : Heap) (k : Nat) (f : Addr) (fd : FuncData) (ps : List Str) (sp : Sp) : Prop where
  len : ∀ vs H Q E, sp vs H Q E → vs.length = ps.length
  run : ∀ (A : Around) (outer : List Env) (s : Shared) (H : Hp) (args : Args) (us : List Value) (vs : List V) (Q : VK) (E : XK), Room k A → A.guards = some [] → Env0 P w K mg base A outer s H →
    BindsTo s fd args (ps.zip us) → Vals vs us → sp vs H Q E → codeAny (model P w) A (.call (.ref f) args) (CR CX0 outer P w H s Q E) s
section
variable {P : Program} {w : World} {K : PySem.W.Frag} {mg : Str → Option Value} {base : Heap} {k : Nat} {f : Addr} {x qual : Str} {st : Stmt} {N ps : List Str} {sp : Sp}
theorem fnG (fd : FuncData) (F : FunD K x qual (defArgs st) (defBody st) (defScope st) [] [] f fd) (S : FnScope N ps (defScope st)) (len : ∀ vs H Q E, sp vs H Q E → vs.length = ps.length)
    (body : ∀ (f : Addr) (cdv : Value) (A : Around) (outer : List Env) (s : Shared) (H : Hp) (vs : List V) (Q : VK) (E : XK), Room k (A.deeper (envOfC qual (defScope st) s.heap.objs.size f cdv)) → (A.deeper (envOfC qual (defScope st) s.heap.objs.size f cdv)).guards = some [] → sp vs H Q E →
      ∃ t, PSs (cxOf CX0 P w K mg base N qual (defScope st) f cdv A outer s H E).nox (defBody st) t ∧ t { nx := fun _ H' => Q .non H', rt := Q } (start N vs) H) : FnG P w K mg base (k + 1) f fd ps sp := by
  obtain ⟨oc, od, dV, kV, doc, pm, an, cdv, ct, osl, rfl, lk, hcd, _, _⟩ := F.ex
  constructor
  · exact len
  · intro A outer s H args us vs Q E room quiet env bd rel told
    have stays : ∀ (b : Addr) (o : Obj), base.get? b = some o → s.heap.get? b = some o := fun b o q => (env.bs b o q).1
    have count := len vs H Q E told
    have heap : K.In s.heap := env.mod.kin.keeps stays
    refine codeAny_call_function room.depth (heap _ _ lk) rfl S.co S.gen rfl (PySem.W.codeRec_of heap hcd) ?_
    refine bd _ _ _ _ (wpAny_newFunctionEnv_cells S.kind ?kinds fun e he s1 made => ?_)
    case kinds =>
      intro y hy
      cases S.par y.1 (List.of_mem_zip (a := y.1) (b := y.2) hy).1 with
      | inl q => exact Or.inl q
      | inr q => exact Or.inr (And.intro q (PySem.W.cellsFrom_some _ _ _ (Or.inl q)))
    subst he
    have nolim : s.heap.NoLimit := env.mod.nolimit.keeps stays
    refine And.intro (nolim.keeps made.toInCall.keep) (codeAny_func ?_)
    obtain ⟨t, d, rd⟩ := body f cdv A outer s H vs Q E (room.deeper _) (by exact quiet) told
    have inv := inv_start (CX := CX0) (E := E) S room.hd env count rel made
    have ran := (PSs.nox d).run [] s1 (start N vs) H _ inv rd
    refine wpAny_mono ran (fun fl s' out => ?_) (fun e s' out => out)
    match fl, out with
    | .ret u, ⟨v, _, H', J, r, z⟩ => exact ⟨v, H', J.os, J.bare, J.base, J.hok, r, z⟩
    | .next, ⟨_, H', J, z⟩ => exact ⟨.non, H', J.os, J.bare, J.base, J.hok, rfl, z⟩
    | .brk, ⟨_, _, _, z⟩ => exact z.elim
    | .cont, ⟨_, _, _, z⟩ => exact z.elim
/-- a def that may be called where no repr is under way -/
structure CalG (P : Program) (w : World) (K : PySem.W.Frag) (mg : Str → Option Value) (base : Heap) (k : Nat) (x : Str) (sp : Sp) : Prop where
  ex : ∃ (f : Addr) (fd : FuncData) (ps : List Str), FnG P w K mg base k f fd ps sp ∧ mg x = some (.ref f) ∧ PySem.W.keepIn K (.ref f) = true ∧ Binds K fd ps []
theorem cal_ofG (F : DefOk K mg x st) (S : FnScope N ps (defScope st)) (hb : ∀ f fd, FunD K x x (defArgs st) (defBody st) (defScope st) [] [] f fd → Binds K fd ps []) (len : ∀ vs H Q E, sp vs H Q E → vs.length = ps.length)
    (body : ∀ (f : Addr) (cdv : Value) (A : Around) (outer : List Env) (s : Shared) (H : Hp) (vs : List V) (Q : VK) (E : XK), Room k (A.deeper (envOfC x (defScope st) s.heap.objs.size f cdv)) → (A.deeper (envOfC x (defScope st) s.heap.objs.size f cdv)).guards = some [] → sp vs H Q E →
      ∃ t, PSs (cxOf CX0 P w K mg base N x (defScope st) f cdv A outer s H E).nox (defBody st) t ∧ t { nx := fun _ H' => Q .non H', rt := Q } (start N vs) H) : CalG P w K mg base (k + 1) x sp := by
  obtain ⟨f, fd, F, hm⟩ := F.ex
  exact ⟨f, fd, ps, fnG fd F S len body, hm, F.kp, hb f fd F⟩
end
section
variable {X : Cx} {k j : Nat} {x : Str} {sp : Sp} {p pos : Pos} {e : Expr} {es : List Expr} {t : TA}
theorem pe_cG (c : CalG X.prog X.w X.K X.mg X.base k x sp) (hr : Room j X.A) (hk : k ≤ j) (hq : X.A.guards = some []) (hg : Gl X x) (ha : PA X (e :: es) t) (hdb : (x == ("__debug__" : Str)) = false := by decide)
    (he : starEach (e :: es) X.env = (false, eval e X.env) :: starEach es X.env := by rfl) (hpl : (backTo pos (starEach es X.env)).any (·.1) = false := by rfl) : PE X (.Call (.Name x p) (e :: es) [] pos) (tCall sp [] C8.E0 t) := by
  obtain ⟨f, fd, ps, F, hm, kp, b⟩ := c.ex
  constructor
  intro pins s σ H Q I h
  refine wpAny_Call_Name_kw (ld_glob I hg hm ?_ hdb)
  refine PySem.W.callWith_K (h₀ := X.base) I.ok.mod.kin kp ?_ he hpl
  refine thn (ha.run pos pins s σ H _ I h) fun us s1 ⟨vs, H1, I1, r, q⟩ => And.intro I1.kIn ?_
  have q : sp (vs ++ []) H1 Q C8.E0 := q
  rw [List.append_nil] at q
  have fits : us.length = ps.length := r.length.symm.trans (F.len vs H1 Q C8.E0 q)
  have bt := b s1 us I1.kIn (by rw [List.append_nil]; exact fits)
  rw [List.append_nil] at bt
  refine wpAny_call (codeAny_mono (F.run X.A X.stack s1 H1 ⟨us, []⟩ us vs Q C8.E0 (hr.mono hk) hq I1.env0 bt r q) ?_)
  intro res s' out
  match res, out with
  | .error _, z => exact z.elim
  | .ok (.ret _), z => exact I1.after z
  | .ok .next, z => exact z.elim
  | .ok .brk, z => exact z.elim
  | .ok .cont, z => exact z.elim
theorem call_reprG (hq : X.A.guards = some []) (hu : X.A.units + 64 < cLine) : CallR X (.builtin "repr") (rRepr X.K) := by
  intro pins s σ H xs us Q I r h
  obtain ⟨a, d, rfl, hd, hs, hn, hdp, hz, q⟩ := h
  obtain ⟨u, eu, rx⟩ := vals1 r
  subst eu
  obtain rfl : u = Value.ref a := rx
  obtain ⟨as, rd⟩ := Dp.reads I d _ _ hd rfl
  refine repr_of_reads' (h₀ := s.heap) rd hs (fun z => by rw [hn] at z; cases z) hq (by omega) (fun _ _ e => e) (fun h' u tk keep => ?_) hz
  exact ⟨.str d.shown, H, I.kept keep, ⟨u, rfl⟩, q⟩
end
/-! ### the end -/
section
variable {P : Program} {w : World} {K : PySem.W.Frag} {mg mb : Str → Option Value} {k : Nat} {fa a : Addr} {fd : FuncData} {x : Str} {sp : Sp} {s : Shared} {vs : List Value} {ns : List Int}
/-- the entry of the law, over what is not tracked -/
theorem enter (kin : K.In s.heap) (glob : s.heap.Ns mainGlobals mg) (blt : s.heap.Ns builtinsNs mb) (boot : ∀ x : Str, x ≠ "__name__" → mb x = bootBuiltins x) (nolim : s.heap.NoLimit) (gens : s.gens = #[])
    (obj : s.heap.get? a = some { cls := .type "list", data := .seq vs.toArray }) {H : Hp} (hok : HOk P w H s.heap) (one : ∀ b, H b ≠ none → b = a) (own : H a ≠ none → K.lookup a = none) :
    Env0 P w K mg (hidT s.heap H) callerA [] s H := by
  have free : ∀ b : Addr, b ≠ a → H b = none := fun b n => Classical.byContradiction fun z => n (one b z)
  have spaces : ∀ {b : Addr} {m : Str → Option Value}, s.heap.Ns b m → (hidT s.heap H).Ns b m := by
    rintro b m ⟨o, es, ep, e, d, r⟩
    refine ⟨o, es, ep, hidT_get e (free b fun z => ?_), d, r⟩
    rw [z, obj] at e
    rw [← Option.some.inj e] at d
    cases d
  have frag : K.In (hidT s.heap H) := by
    intro b o e
    by_cases q : H b = none
    · exact hidT_get (kin b o e) q
    · rw [one b q] at e q
      rw [own q] at e
      cases e
  obtain ⟨mc, l1, l2⟩ := nolim
  constructor
  · rfl
  · exact { kin := frag, glob := spaces glob, blt := ⟨mb, spaces blt, boot⟩, nolimit := ⟨mc, spaces l1, l2⟩ }
  · exact fun b o e => of_hidT e
  · exact Nat.le_of_eq (hidT_size s.heap H)
  · trivial
  · intro b hb
    simp [frs] at hb
  · exact hok
  · exact .of_eq gens
theorem lawG (kin : K.In s.heap) (glob : s.heap.Ns mainGlobals mg) (blt : s.heap.Ns builtinsNs mb) (boot : ∀ x : Str, x ≠ "__name__" → mb x = bootBuiltins x) (nolim : s.heap.NoLimit) (gens : s.gens = #[])
    (obj : s.heap.get? a = some { cls := .type "list", data := .seq vs.toArray }) (inn : IntsAre vs ns) (few : ns.length ≤ sizeLine) (room : Room k callerA) (F : ∀ base : Heap, FnG P w K mg base k fa fd [x] sp)
    (bd : ∀ (s : Shared) (u : Value), BindsTo s fd ⟨[u], []⟩ [(x, u)]) (told : ∀ H : Hp, SqL K H a (ns.map V.int) → sp [.ref a] H (fun v _ => v = .bl true) fun _ _ _ => False) :
    codeAny (model P w) callerA (.call (.ref fa) ⟨[.ref a], []⟩) (fun r s' => r = .ok (.ret (.bool true)) ∧ OldK s.heap s'.heap ∧ s'.os = s.os ∧ AllBare s'.gens) s := by
  have rel := vals_ints inn
  have count := inn.length
  obtain ⟨H, hok, one, own, frz, seq⟩ : ∃ H : Hp, HOk P w H s.heap ∧ (∀ b, H b ≠ none → b = a) ∧ (H a ≠ none → K.lookup a = none) ∧ (∀ b u, H b = some u → ∃ o xs, u = .frz o (.lst xs)) ∧ SqL K H a (ns.map V.int) := by
    cases lk : K.lookup a with
    | some o =>
      have e := kin a o lk
      rw [obj] at e
      cases e
      refine ⟨fun _ => none, (fun b u z => by cases z), (fun b z => absurd rfl z), (fun z => absurd rfl z), (fun b u z => by cases z), .inr ⟨_, vs.toArray, _, lk, rfl, rfl, rfl, ?_, ?_⟩⟩
      · rw [List.size_toArray, count]
        exact few
      · simpa using rel
    | none =>
      let O : Obj := { cls := .type "list", data := .seq vs.toArray }
      have at_ : ∀ b u, (if b = a then some (HO.frz O (.lst (ns.map V.int))) else none) = some u → b = a ∧ u = .frz O (.lst (ns.map V.int)) := fun b u z => by
        by_cases q : b = a
        · rw [if_pos q] at z
          exact ⟨q, (Option.some.inj z).symm⟩
        · rw [if_neg q] at z
          cases z
      refine ⟨fun b => if b = a then some (.frz O (.lst (ns.map V.int))) else none, fun b u z => ?_, fun b z => ?_, fun _ => rfl, fun b u z => ⟨_, _, (at_ b u z).2⟩, .inl (.inr ⟨O, if_pos rfl⟩)⟩
      · obtain ⟨rfl, rfl⟩ := at_ b u z
        exact ⟨obj, by rw [List.length_map]; exact few, vs, _, rel, obj⟩
      · by_cases q : b = a
        · exact q
        · exact absurd (if_neg q) z
  have env := enter (P := P) (w := w) kin glob blt boot nolim gens obj hok one own
  refine codeAny_mono ((F _).run callerA [] s H ⟨[.ref a], []⟩ [.ref a] [.ref a] _ _ room rfl env (bd s (.ref a)) (.cons rfl .nil) (told H seq)) ?_
  intro res s' out
  match res, out with
  | .error _, z => exact z.elim
  | .ok .next, z => exact z.elim
  | .ok .brk, z => exact z.elim
  | .ok .cont, z => exact z.elim
  | .ok (.ret u), ⟨v, H', os, bare, un, hok', r, z⟩ =>
    obtain rfl : v = .bl true := z
    obtain rfl : u = Value.bool true := r
    refine ⟨rfl, OldK.of_keep fun b o e => ?_, os, bare⟩
    cases q : H b with
    | none => exact un.keep b o e q (by simp [frs]) (by simp)
    | some u =>
      obtain ⟨ob, xs, rfl⟩ := frz b u q
      have before := (hok b _ q).1
      rw [e] at before
      rw [Option.some.inj before]
      exact (hok' b _ (un.frzs b ob _ q)).1
theorem walkG {l : PySem.W.OpenLaw} {n : Nat} {q : Program} {loose : List Str} {XP : (Str → Option Value) → Heap → Prop} {YP : World → Heap → Prop} {d : DefRec} (most : l.most = some n) (small : n ≤ sizeLine) (plain : d.params.defaults = []) (room : Room k callerA)
    (F : ∀ (w : World) (mg : Str → Option Value) (fa : Addr) (h : Heap), YP w h → h.Ns mainGlobals mg → mg d.name = some (.ref fa) → ∃ (K : PySem.W.Frag) (fd : FuncData) (sp : Sp), K.In h ∧ (∀ (s : Shared) (u : Value), BindsTo s fd ⟨[u], []⟩ [(x, u)]) ∧
      (∀ (H : Hp) (a : Addr) (ns : List Int), ns.length ≤ n → SqL K H a (ns.map V.int) → sp [.ref a] H (fun v _ => v = .bl true) fun _ _ _ => False) ∧ ∀ base : Heap, FnG l.prog w K mg base k fa fd [x] sp) :
    PySem.W.WalkO q loose XP YP l.row.toRowW d [] (fun f vs => PySem.call f vs) := by
  refine Att.attach_call most plain ?_
  intro w s₀ s₁ mg mb fa o pm cd doc a vs ns G Y ho hd hcd hmg obj inn len gens
  obtain ⟨K, fd, sp, kin, bd, told, fs⟩ := F w mg fa _ Y G.T.g hmg
  exact lawG kin G.T.g G.T.b G.T.builtins G.T.nolimit gens obj inn (Nat.le_trans len small) room fs bd fun H hS => told H a ns len hS
end
end WG
/-! WB: numbers with bounds, and their texts. -/
namespace WB
open PySem PySem.Spec PyProof.Rows L2 Wy WN WQ WS WC
/-- at most so great -/
def Bd (n : Nat) (i : Int) : Prop := i.natAbs < 10 ^ n
theorem Bd.iff {n : Nat} {i : Int} : Bd n i ↔ -(10 ^ n : Nat) < i ∧ i < (10 ^ n : Nat) := by
  unfold Bd
  omega
def DfB (n : Nat) (d : Df) : Prop := Bd n d.1 ∧ Bd n d.2.1 ∧ Bd n d.2.2
def spWtB : Sp := fun vs H Q _ => ∃ d : Int, vs = [.int d] ∧ ∀ r : Int, Bd 40 r → Q (.int r) H
def spDiffsB (K : PySem.W.Frag) : Sp := fun vs H Q _ => ∃ (a : Addr) (zs : List Int) (pl : Int) (n m : Nat), vs = [.ref a, .int pl, .int n, .int m] ∧ SqL K H a (zs.map V.int) ∧ n ≤ 100 ∧ m ≤ 1000 ∧
  ∀ p us H' ds, Same H H' → H p = none → H' p = some (.lst us) → TpAll H' us ((ds : List Df).map dfD) → ds.length = n → (∀ d ∈ ds, InR m d ∧ Bd 40 d.2.2) → Q (.ref p) H'
/-! ### texts of data -/
/-- data whose text is short: depth, weight -/
structure Rp (k n : Nat) (d : PyData) : Prop where
  sh : d.showable = true
  hd : d.hasDict = false
  lv : d.leavesShort 60 = true
  wt : d.weight ≤ n
  dp : d.depth ≤ k
theorem Rp.mono {k n k' n' : Nat} {d : PyData} (r : Rp k n d) (h : k ≤ k') (h' : n ≤ n') : Rp k' n' d := ⟨r.sh, r.hd, r.lv, Nat.le_trans r.wt h', Nat.le_trans r.dp h⟩
theorem rp_int {i : Int} (h : Bd 58 i) : Rp 0 200 (.int i) := by
  have hp : 10 ^ 58 ≤ 2 ^ 193 := by decide +kernel
  have h2 : i.natAbs.log2 < 193 := by
    by_cases h0 : i.natAbs = 0
    · rw [h0]
      decide
    · rw [Nat.log2_lt h0]
      exact Nat.lt_of_lt_of_le h hp
  refine ⟨?_, rfl, ?_, ?_, by simp [PyData.depth]⟩
  · simp only [PyData.showable, decide_eq_true_eq]
    omega
  · have e := PySem.int_text_length_le10 (k := 58) (by decide) h
    show decide ((Str.ofString (toString i)).length ≤ 60) = true
    rw [decide_eq_true_eq, PySem.ofString_length]
    omega
  · show (if i == 0 then 0 else i.natAbs.log2 + 1) ≤ 200
    split <;> omega
theorem all_parts {k n : Nat} : ∀ {ds : List PyData}, (∀ x ∈ ds, Rp k n x) → PyData.showableAll ds = true ∧ PyData.hasDictAll ds = false ∧ PyData.leavesShortAll 60 ds = true ∧ PyData.weightAll ds ≤ ds.length * (n + 1) ∧ PyData.depthAll ds ≤ k
  | [], _ => ⟨rfl, rfl, rfl, Nat.zero_le _, by simp [PyData.depthAll]⟩
  | x :: xs, h => by
    have h1 := h x List.mem_cons_self
    obtain ⟨a1, a2, a3, a4, a5⟩ := all_parts fun y hy => h y (List.mem_cons_of_mem _ hy)
    refine ⟨?_, ?_, ?_, ?_, ?_⟩
    · simp only [PyData.showableAll, h1.sh, a1, Bool.and_self]
    · simp only [PyData.hasDictAll, h1.hd, a2, Bool.or_self]
    · simp only [PyData.leavesShortAll, h1.lv, a3, Bool.and_self]
    · have := h1.wt
      simp only [PyData.weightAll, List.length_cons]
      rw [Nat.add_mul]
      omega
    · have := h1.dp
      simp only [PyData.depthAll]
      omega
theorem rp_tup {k n : Nat} {ds : List PyData} (h : ∀ x ∈ ds, Rp k n x) : Rp (k + 1) (ds.length * (n + 1)) (.tuple ds) := by
  obtain ⟨a1, a2, a3, a4, a5⟩ := all_parts h
  exact ⟨by simp only [PyData.showable, a1], by simp only [PyData.hasDict, a2], by simp only [PyData.leavesShort, a3], by simp only [PyData.weight]; exact a4, by simp only [PyData.depth]; omega⟩
theorem rp_lst {k n : Nat} {ds : List PyData} (h : ∀ x ∈ ds, Rp k n x) : Rp (k + 1) (ds.length * (n + 1)) (.list ds) := by
  obtain ⟨a1, a2, a3, a4, a5⟩ := all_parts h
  exact ⟨by simp only [PyData.showable, a1], by simp only [PyData.hasDict, a2], by simp only [PyData.leavesShort, a3], by simp only [PyData.weight]; exact a4, by simp only [PyData.depth]; omega⟩
theorem rp_len {k n : Nat} {d : PyData} (r : Rp k n d) (h : n ≤ 200000) : d.shown.length ≤ sizeLine := by
  have h1 := PyData.shown_le 60 (by decide) d r.lv
  have h2 := r.wt
  have hz : sizeLine = 16777216 := sizeLine_eq
  have h3 : (60 + 2) * d.weight ≤ 62 * 200000 := Nat.mul_le_mul (by decide) (by omega)
  omega
theorem rp_df {d : Df} (h : DfB 58 d) : Rp 1 603 (dfD d) := rp_tup (ds := [.int d.1, .int d.2.1, .int d.2.2]) (n := 200) fun x hx => by
  simp only [List.mem_cons, List.not_mem_nil, or_false] at hx
  rcases hx with rfl | rfl | rfl
  · exact rp_int h.1
  · exact rp_int h.2.1
  · exact rp_int h.2.2
/-- repr of data -/
theorem b_repr {K : PySem.W.Frag} {H : Hp} {Q : VK} {a : Addr} {d : PyData} {k n : Nat} (hd : Dp K H (.ref a) d) (r : Rp k n d) (hk : k ≤ 60) (hn : n ≤ 200000) (h : Q (.str d.shown) H) : rRepr K [.ref a] H Q :=
  ⟨a, d, rfl, hd, r.sh, r.hd, Nat.le_trans r.dp hk, rp_len r hn, h⟩
end WB
/-! WP: what the chains in a table of bounds mean. -/
namespace WP
open PySem PySem.Spec PyProof.Rows L2 Wy WN WQ WS WC WT
theorem room65 {k : Nat} {A : Around} (r : Room k A) : A.units + 65 < cLine := by
  have := r.un
  omega
/-- the nodes that a chain passes, from its start on -/
def nodes (u : Int) (es : List Df) : List Int := u :: es.map (·.2.1)
theorem path_at : ∀ {es : List Df} {u z s w : Int}, Path es u z s → w ∈ nodes u es → ∃ a b s1 s2, es = a ++ b ∧ Path a u w s1 ∧ Path b w z s2 ∧ s = s1 + s2
  | es, u, z, s, w, p, h => by
    induction p with
    | nil =>
      simp only [nodes, List.map_nil, List.mem_singleton] at h
      subst h
      exact ⟨[], [], 0, 0, rfl, .nil, .nil, rfl⟩
    | cons p ih =>
      rename_i r u v z c s
      simp only [nodes, List.map_cons, List.mem_cons] at h
      rcases h with rfl | h
      · exact ⟨[], _, 0, _, rfl, .nil, .cons p, (Int.zero_add _).symm⟩
      · have : w ∈ nodes v r := by
          unfold nodes
          rcases h with rfl | h
          · exact List.mem_cons_self
          · exact List.mem_cons_of_mem _ h
        obtain ⟨a, b, s1, s2, e, h1, h2, h3⟩ := ih this
        refine ⟨(u, v, c) :: a, b, c + s1, s2, by rw [e]; rfl, .cons h1, h2, by omega⟩
/-- a table and the differences that it was made of -/
structure Mean (n : Nat) (ds : List Df) (M : Tab) : Prop where
  sq : Sq2 M n
  cl : Cl n (bd M)
  inr : ∀ d ∈ ds, InR n d
  low : ∀ d ∈ ds, ∃ z, bd M d.1.toNat d.2.1.toNat = some z ∧ z ≤ d.2.2
  told : ∀ i j p, i ≤ n → j ≤ n → cell M i j = some p → (∀ k ∈ p.2, 0 ≤ k ∧ k < ds.length) ∧ Path (p.2.map (dsAt ds)) i j p.1 ∧ (nodes i (p.2.map (dsAt ds))).Nodup
theorem Mean.path {n : Nat} {ds : List Df} {M : Tab} (h : Mean n ds M) : ∀ {es : List Df} {u z s : Int}, Path es u z s → (∀ d ∈ es, d ∈ ds) → 0 ≤ u → u ≤ n → 0 ≤ z ∧ z ≤ n ∧ ∃ b, bd M u.toNat z.toNat = some b ∧ b ≤ s
  | _, u, _, _, .nil, _, h0, h1 => ⟨h0, h1, 0, h.cl.diag _ (by omega), Int.le_refl _⟩
  | _, u, z, _, .cons (v := v) (c := c) (s := s) (r := r) p, hm, h0, h1 => by
    have hd := hm (u, v, c) List.mem_cons_self
    obtain ⟨_, _, v0, v1⟩ := h.inr _ hd
    obtain ⟨x, ex, lx⟩ := h.low _ hd
    obtain ⟨z0, z1, y, ey, ly⟩ := h.path p (fun d hd => hm d (List.mem_cons_of_mem _ hd)) v0 v1
    have v0 : 0 ≤ v := v0
    have v1 : v ≤ n := v1
    have lx : x ≤ c := lx
    obtain ⟨b, eb, lb⟩ := h.cl.tri u.toNat v.toNat z.toNat x y (by omega) (by omega) (by omega) ex ey
    exact ⟨z0, z1, b, eb, by omega⟩
theorem dsAt_mem {ds : List Df} {k : Int} (h0 : 0 ≤ k) (h1 : k < ds.length) : dsAt ds k ∈ ds := by
  unfold dsAt
  rw [List.getD_eq_getElem?_getD, List.getElem?_eq_getElem (by omega)]
  exact List.getElem_mem _
theorem dsAt_app {ds es : List Df} {k : Int} (h0 : 0 ≤ k) (h1 : k < ds.length) : dsAt (ds ++ es) k = dsAt ds k := by
  unfold dsAt
  rw [List.getD_eq_getElem?_getD, List.getD_eq_getElem?_getD, List.getElem?_append_left (by omega)]
theorem map_app {ds es : List Df} {ns : List Int} (h : ∀ k ∈ ns, 0 ≤ k ∧ k < ds.length) : ns.map (dsAt (ds ++ es)) = ns.map (dsAt ds) := List.map_congr_left fun k hk => dsAt_app (h k hk).1 (h k hk).2
theorem Mean.start (n : Nat) : Mean n [] (tab0 n) := by
  refine ⟨tab0_sq n, tab0_cl n, fun _ h => (by cases h), fun _ h => (by cases h), fun i j p hi hj e => ?_⟩
  rw [tab0_cell hi hj] at e
  split at e
  · rename_i q
    cases e
    subst q
    exact ⟨fun _ h => (by cases h), Path.nil, by simp [nodes]⟩
  · cases e
/-- the chain that a tie brings passes each node once -/
theorem Mean.join {n : Nat} {ds : List Df} {M : Tab} (h : Mean n ds M) {d : Df} (hd : InR n d) (hr : ringOf M d = none) {i j : Nat} (hi : i ≤ n) (hj : j ≤ n) {p q : Int × List Int} (hp : cell M i d.1.toNat = some p) (hq : cell M d.2.1.toNat j = some q)
    (hn : ∀ o, cell M i j = some o → p.1 + d.2.2 + q.1 < o.1) :
    (∀ k ∈ p.2 ++ [(ds.length : Int)] ++ q.2, 0 ≤ k ∧ k < (ds ++ [d]).length) ∧ Path ((p.2 ++ [(ds.length : Int)] ++ q.2).map (dsAt (ds ++ [d]))) i j (p.1 + d.2.2 + q.1) ∧ (nodes i ((p.2 ++ [(ds.length : Int)] ++ q.2).map (dsAt (ds ++ [d])))).Nodup := by
  obtain ⟨h0, h1, h2, h3⟩ := hd
  obtain ⟨p1, p2, p3⟩ := h.told _ _ _ hi (by omega) hp
  obtain ⟨q1, q2, q3⟩ := h.told _ _ _ (by omega) hj hq
  rw [Int.toNat_of_nonneg h0] at p2
  rw [Int.toNat_of_nonneg h2] at q2 q3
  have last : dsAt (ds ++ [d]) (ds.length : Int) = d := by
    unfold dsAt
    rw [List.getD_eq_getElem?_getD, Int.toNat_natCast, List.getElem?_append_right (Nat.le_refl _), Nat.sub_self]
    rfl
  have e : (p.2 ++ [(ds.length : Int)] ++ q.2).map (dsAt (ds ++ [d])) = p.2.map (dsAt ds) ++ [d] ++ q.2.map (dsAt ds) := by
    rw [List.map_append, List.map_append, map_app p1, map_app q1, List.map_singleton, last]
  rw [e]
  have one : Path [d] d.1 d.2.1 d.2.2 := Path.one
  refine ⟨fun k hk => ?_, (p2.app one).app q2, ?_⟩
  · rw [List.length_append, List.length_singleton]
    simp only [List.mem_append, List.mem_singleton] at hk
    rcases hk with (hk | rfl) | hk
    · have := p1 k hk
      omega
    · omega
    · have := q1 k hk
      omega
  · have en : nodes i (p.2.map (dsAt ds) ++ [d] ++ q.2.map (dsAt ds)) = nodes i (p.2.map (dsAt ds)) ++ nodes d.2.1 (q.2.map (dsAt ds)) := by
      simp [nodes]
    rw [en, List.nodup_append]
    refine ⟨p3, q3, fun w hw v hv e => ?_⟩
    subst e
    obtain ⟨a1, b1, s1, s2, ea, pa, pb, es⟩ := path_at p2 hw
    obtain ⟨a2, b2, t1, t2, eb, qa, qb, et⟩ := path_at q2 hv
    have ma : ∀ x ∈ a1 ++ b1, x ∈ ds := fun x hx => by
      rw [← ea] at hx
      obtain ⟨k, hk, rfl⟩ := List.mem_map.mp hx
      exact dsAt_mem (p1 k hk).1 (p1 k hk).2
    have mb : ∀ x ∈ a2 ++ b2, x ∈ ds := fun x hx => by
      rw [← eb] at hx
      obtain ⟨k, hk, rfl⟩ := List.mem_map.mp hx
      exact dsAt_mem (q1 k hk).1 (q1 k hk).2
    obtain ⟨_, _, o, eo, lo⟩ := h.path (pa.app qb) (fun x hx => by
      rcases List.mem_append.mp hx with hx | hx
      · exact ma x (List.mem_append_left _ hx)
      · exact mb x (List.mem_append_right _ hx)) (by omega) (by omega)
    obtain ⟨_, _, r, er, lr⟩ := h.path (qa.app pb) (fun x hx => by
      rcases List.mem_append.mp hx with hx | hx
      · exact mb x (List.mem_append_left _ hx)
      · exact ma x (List.mem_append_right _ hx)) h2 h3
    have hring := ring_none hr r er
    rw [Int.toNat_natCast, Int.toNat_natCast] at eo
    obtain ⟨oc, ec, e1⟩ := Option.map_eq_some_iff.mp eo
    have := hn oc ec
    omega
/-- a cell of the table behind a tie: the old one, or the chain through the new difference -/
theorem tie_cell {M : Tab} {n k i j : Nat} {d : Df} {p : Int × List Int} (h : Sq2 M n) (hd : InR n d) (hi : i ≤ n) (hj : j ≤ n) (e : cell (tieM M d k) i j = some p) :
    cell M i j = some p ∨ ∃ a b, cell M i d.1.toNat = some a ∧ cell M d.2.1.toNat j = some b ∧ p = (a.1 + d.2.2 + b.1, a.2 ++ [(k : Int)] ++ b.2) ∧ ∀ o, cell M i j = some o → a.1 + d.2.2 + b.1 < o.1 := by
  obtain ⟨h0, h1, h2, h3⟩ := hd
  have key : cell (bring M d.1.toNat d.2.1.toNat (d.2.2, [(k : Int)])) i j = some p → cell M i j = some p ∨ ∃ a b, cell M i d.1.toNat = some a ∧ cell M d.2.1.toNat j = some b ∧ p = (a.1 + d.2.2 + b.1, a.2 ++ [(k : Int)] ++ b.2) ∧ ∀ o, cell M i j = some o → a.1 + d.2.2 + b.1 < o.1 := by
    intro e
    rw [bring_cell h (by omega) (by omega) hi hj] at e
    cases ea : cell M i d.1.toNat with
    | none =>
      rw [ea] at e
      exact .inl e
    | some a =>
      rw [ea] at e
      have e : shorter (cell M i j) (joinC a (d.2.2, [(k : Int)])) (cell M d.2.1.toNat j) = some p := e
      cases eb : cell M d.2.1.toNat j with
      | none =>
        rw [eb] at e
        exact .inl e
      | some b =>
        rw [eb] at e
        cases eo : cell M i j with
        | none =>
          rw [eo] at e
          exact .inr ⟨a, b, rfl, rfl, (Option.some.inj e).symm, fun o h => by cases h⟩
        | some o =>
          rw [eo, shorter_some] at e
          split at e
          · exact .inl e
          · rename_i q
            refine .inr ⟨a, b, rfl, rfl, (Option.some.inj e).symm, fun o' h => ?_⟩
            cases h
            simp only [joinC] at q
            omega
  unfold tieM at e
  cases eg : cell M d.1.toNat d.2.1.toNat with
  | none =>
    rw [eg] at e
    exact key e
  | some g =>
    rw [eg] at e
    have e : cell (if d.2.2 < g.1 then bring M d.1.toNat d.2.1.toNat (d.2.2, [(k : Int)]) else M) i j = some p := e
    split at e
    · exact key e
    · exact .inl e
/-- a tie without a ring keeps the meaning -/
theorem Mean.tie {n : Nat} {ds : List Df} {M : Tab} (h : Mean n ds M) {d : Df} (hd : InR n d) (hr : ringOf M d = none) : Mean n (ds ++ [d]) (tieM M d ds.length) := by
  refine ⟨tie_sq h.sq hd, tie_cl h.sq h.cl hd hr, fun x hx => ?_, fun x hx => ?_, fun i j p hi hj e => ?_⟩
  · rcases List.mem_append.mp hx with hx | hx
    · exact h.inr x hx
    · rw [List.mem_singleton.mp hx]
      exact hd
  · obtain ⟨h0, h1, h2, h3⟩ := hd
    rcases List.mem_append.mp hx with hx | hx
    · obtain ⟨x0, x1, x2, x3⟩ := h.inr x hx
      obtain ⟨z, ez, lz⟩ := h.low x hx
      rw [tie_bd h.sq h.cl ⟨h0, h1, h2, h3⟩ (by omega) (by omega), ez]
      obtain ⟨z', e', l'⟩ := relax_old (x := bd M x.1.toNat d.1.toNat) (y := bd M d.2.1.toNat x.2.1.toNat) (c := d.2.2) (o := z)
      exact ⟨z', e', by omega⟩
    · obtain rfl := List.mem_singleton.mp hx
      rw [tie_bd h.sq h.cl ⟨h0, h1, h2, h3⟩ (by omega) (by omega), h.cl.diag _ (by omega), h.cl.diag _ (by omega)]
      obtain ⟨z', e', l'⟩ := relax_new (b := bd M x.1.toNat x.2.1.toNat) (c := x.2.2) (p := 0) (q := 0)
      exact ⟨z', e', by omega⟩
  · rcases tie_cell h.sq hd hi hj e with e | ⟨a, b, ea, eb, rfl, hn⟩
    · obtain ⟨t1, t2, t3⟩ := h.told i j p hi hj e
      rw [map_app t1]
      refine ⟨fun k hk => ?_, t2, t3⟩
      have := t1 k hk
      rw [List.length_append]
      omega
    · exact h.join hd hr hi hj ea eb hn
/-- a chain that passes each node once is short -/
theorem Mean.short {n : Nat} {ds : List Df} {M : Tab} (h : Mean n ds M) : Short M n := by
  intro row hr c hc
  obtain ⟨i, hi, rfl⟩ := List.getElem_of_mem hr
  obtain ⟨j, hj, ej⟩ := List.getElem_of_mem hc
  have li := h.sq.2 _ (List.getElem_mem hi)
  have hi' : i ≤ n := by
    have := h.sq.1
    omega
  have hj' : j ≤ n := by omega
  have e : cell M i j = some c := by
    unfold cell
    rw [List.getD_eq_getElem?_getD (l := M), List.getElem?_eq_getElem hi]
    show (M[i]).getD j none = _
    rw [List.getD_eq_getElem?_getD, List.getElem?_eq_getElem hj, ej]
    rfl
  obtain ⟨t1, t2, t3⟩ := h.told i j c hi' hj' e
  have sub : ∀ x ∈ nodes i (c.2.map (dsAt ds)), x ∈ (List.range (n + 1)).map fun (k : Nat) => (k : Int) := fun x hx => by
    have : 0 ≤ x ∧ x ≤ n := by
      rcases List.mem_cons.mp hx with rfl | hx
      · omega
      · obtain ⟨d, hd, rfl⟩ := List.mem_map.mp hx
        obtain ⟨k, hk, rfl⟩ := List.mem_map.mp hd
        obtain ⟨_, _, r3, r4⟩ := h.inr _ (dsAt_mem (t1 k hk).1 (t1 k hk).2)
        exact ⟨r3, r4⟩
    exact List.mem_map.mpr ⟨x.toNat, List.mem_range.mpr (by omega), by omega⟩
  have le := List.Nodup.length_le_of_subset t3 sub
  simp only [nodes, List.length_cons, List.length_map, List.length_range] at le
  omega
/-- the ring that a tie closes is one -/
theorem Mean.ring {n : Nat} {ds : List Df} {M : Tab} (h : Mean n ds M) {d : Df} (hd : InR n d) {r : List Int} (hr : ringOf M d = some r) : ∃ s, csum (ds ++ [d]) ((ds.length : Int) :: r) = some (d.1, d.1, s) ∧ s < 0 := by
  obtain ⟨h0, h1, h2, h3⟩ := hd
  unfold ringOf at hr
  cases e : cell M d.2.1.toNat d.1.toNat with
  | none =>
    rw [e] at hr
    cases hr
  | some b =>
    rw [e] at hr
    have hr : (if d.2.2 + b.1 < 0 then some b.2 else none) = some r := hr
    split at hr
    · cases hr
      obtain ⟨t1, t2, t3⟩ := h.told _ _ b (by omega) (by omega) e
      rw [Int.toNat_of_nonneg h0, Int.toNat_of_nonneg h2] at t2
      have last : dsAt (ds ++ [d]) (ds.length : Int) = d := by
        unfold dsAt
        rw [List.getD_eq_getElem?_getD, Int.toNat_natCast, List.getElem?_append_right (Nat.le_refl _), Nat.sub_self]
        rfl
      refine ⟨d.2.2 + b.1, csum_path (fun k hk => ?_) ?_ (by simp), by assumption⟩
      · rw [List.length_append, List.length_singleton]
        rcases List.mem_cons.mp hk with rfl | hk
        · omega
        · have := t1 k hk
          omega
      · rw [List.map_cons, last, map_app t1]
        exact Path.cons t2
    · cases hr
end WP
namespace WX
/-! the paper of a shortest suite: nodes (chosen, barred), the stack's top first -/
abbrev Node := List Nat × List Nat
def holds (S : List (List Nat)) (e k : Nat) : Bool := (S.getD k []).contains e
def hol (S : List (List Nat)) (e : Nat) : List Nat := (List.range S.length).filter (holds S e)
def br : List Nat → List Nat → List Nat → List Node
  | [], _, _ => []
  | k :: ks, c, b => if k ∈ b then br ks c b else (c ++ [k], b) :: br ks c (b ++ [k])
def push (S : List (List Nat)) (m e : Nat) (c b : List Nat) (st : List Node) : List Node :=
  if c.length < m then br (hol S e) c b ++ st else st
def hit (S : List (List Nat)) (e : Nat) (c : List Nat) : Bool := c.any (holds S e)
def acc (S : List (List Nat)) (m : Nat) : List Nat → List Node → Bool
  | [], st => st.isEmpty
  | _ :: _, [] => false
  | e :: es, (c, b) :: st => if hol S e = [] then false else if hit S e c then false else acc S m es (push S m e c b st)
structure Ok (S : List (List Nat)) (m : Nat) (C : List Nat) : Prop where
  len : C.length ≤ m
  lt : ∀ k ∈ C, k < S.length
  all : ∀ e, hol S e ≠ [] → hit S e C = true
structure Comp (C : List Nat) (nd : Node) : Prop where
  un : nd.1.Nodup
  sub : ∀ k ∈ nd.1, k ∈ C
  out : ∀ k ∈ nd.2, k ∉ C
def Inv (S : List (List Nat)) (m : Nat) (st : List Node) : Prop := ∀ C, Ok S m C → ∃ nd ∈ st, Comp C nd
theorem nodup_len {l C : List Nat} (h : l.Nodup) (s : ∀ k ∈ l, k ∈ C) : l.length ≤ C.length := by
  induction l generalizing C with
  | nil => simp
  | cons a t ih =>
    have ha : a ∈ C := s a (by simp)
    have hn := List.nodup_cons.1 h
    have := ih (C := C.erase a) hn.2 (fun k hk => by
      have hk2 := s k (by simp [hk])
      have : k ≠ a := fun e => hn.1 (e ▸ hk)
      exact (List.mem_erase_of_ne this).2 hk2)
    have h2 := List.length_erase_of_mem ha
    have h3 : 0 < C.length := List.length_pos_of_mem ha
    simp only [List.length_cons]; omega
theorem hit_iff {S e c} : hit S e c = true ↔ ∃ k ∈ c, holds S e k = true := by simp [hit]
theorem mem_hol {S e k} : k ∈ hol S e ↔ k < S.length ∧ holds S e k = true := by simp [hol]
theorem br_comp {C ks c b} (hc : c.Nodup) (hs : ∀ k ∈ c, k ∈ C) (ho : ∀ k ∈ b, k ∉ C) (hn : ∀ k ∈ ks, k ∉ c) (hx : ∃ k ∈ ks, k ∈ C) : ∃ nd ∈ br ks c b, Comp C nd := by
  induction ks generalizing b with
  | nil => obtain ⟨k, hk, _⟩ := hx; exact absurd hk (by simp)
  | cons k ks ih =>
    unfold br
    by_cases hkb : k ∈ b
    · rw [if_pos hkb]
      refine ih ho (fun x hx => hn x (by simp [hx])) ?_
      obtain ⟨x, hx, hxC⟩ := hx
      rcases List.mem_cons.1 hx with rfl | hx
      · exact absurd hxC (ho _ hkb)
      · exact ⟨x, hx, hxC⟩
    · rw [if_neg hkb]
      by_cases hkC : k ∈ C
      · refine ⟨_, List.mem_cons_self .., ⟨?_, ?_, ho⟩⟩
        · refine List.nodup_append.2 ⟨hc, by simp, ?_⟩
          intro a ha x hx
          have : x = k := by simpa using hx
          subst this
          exact fun e => hn x (by simp) (e ▸ ha)
        · intro x hx
          rcases List.mem_append.1 hx with hx | hx
          · exact hs x hx
          · have : x = k := by simpa using hx
            exact this ▸ hkC
      · obtain ⟨x, hx, hxC⟩ := hx
        have hx : x ∈ ks := by
          rcases List.mem_cons.1 hx with rfl | hx
          · exact absurd hxC hkC
          · exact hx
        obtain ⟨nd, hnd, hcomp⟩ := ih (b := b ++ [k]) (by
          intro y hy
          rcases List.mem_append.1 hy with hy | hy
          · exact ho y hy
          · have : y = k := by simpa using hy
            exact this ▸ hkC) (fun x hx => hn x (by simp [hx])) ⟨x, hx, hxC⟩
        exact ⟨nd, List.mem_cons_of_mem _ hnd, hcomp⟩
theorem inv_step {S m e c b st} (I : Inv S m ((c, b) :: st)) (h1 : hol S e ≠ []) (h2 : hit S e c = false) : Inv S m (push S m e c b st) := by
  intro C O
  obtain ⟨nd, hnd, hc⟩ := I C O
  rcases List.mem_cons.1 hnd with rfl | hnd
  · have hh := hit_iff.1 (O.all e h1)
    obtain ⟨k, hk, hke⟩ := hh
    have hnc : ∀ k ∈ hol S e, k ∉ c := by
      intro x hx hxc
      have : hit S e c = true := hit_iff.2 ⟨x, hxc, (mem_hol.1 hx).2⟩
      rw [h2] at this; exact absurd this (by decide)
    have hkh : k ∈ hol S e := mem_hol.2 ⟨O.lt k hk, hke⟩
    have hlt : c.length < m := by
      have hkc := hnc k hkh
      have hnd2 : (k :: c).Nodup := List.nodup_cons.2 ⟨hkc, hc.un⟩
      have := nodup_len hnd2 (C := C) (fun x hx => by
        rcases List.mem_cons.1 hx with rfl | hx
        · exact hk
        · exact hc.sub x hx)
      have := O.len
      simp only [List.length_cons] at *; omega
    unfold push
    rw [if_pos hlt]
    obtain ⟨nd, h, hcm⟩ := br_comp hc.un hc.sub hc.out hnc ⟨k, hkh, hk⟩
    exact ⟨nd, List.mem_append_left _ h, hcm⟩
  · unfold push
    split
    · exact ⟨nd, List.mem_append_right _ hnd, hc⟩
    · exact ⟨nd, hnd, hc⟩
theorem inv_start {S m} : Inv S m [([], [])] := fun C _ => ⟨_, List.mem_cons_self .., ⟨by simp, by simp, by simp⟩⟩
theorem inv_end {S m} (I : Inv S m []) {C} (O : Ok S m C) : False := by
  obtain ⟨nd, h, _⟩ := I C O
  exact absurd h (by simp)
theorem acc_sound {S m es st} (I : Inv S m st) (h : acc S m es st = true) {C} (O : Ok S m C) : False := by
  induction es generalizing st with
  | nil =>
    cases st with
    | nil => exact inv_end I O
    | cons a t => simp [acc] at h
  | cons e es ih =>
    cases st with
    | nil => simp [acc] at h
    | cons a t =>
      obtain ⟨c, b⟩ := a
      simp only [acc] at h
      split at h
      · exact absurd h (by decide)
      · split at h
        · exact absurd h (by decide)
        · rename_i h1 h2
          exact ih (inv_step I h1 (by simpa using h2)) h
/-! nodes on the stack: their chosen numbers -/
structure Good (S : List (List Nat)) (m : Nat) (nd : Node) : Prop where
  un : nd.1.Nodup
  lt : ∀ k ∈ nd.1, k < S.length
  blt : ∀ k ∈ nd.2, k < S.length
  bun : nd.2.Nodup
  len : nd.1.length ≤ m
theorem br_good {S m ks c b} (hc : c.Nodup) (hl : c.length < m) (hs : ∀ k ∈ c, k < S.length) (hb : ∀ k ∈ b, k < S.length) (hbn : b.Nodup) (hk : ∀ k ∈ ks, k < S.length) (hn : ∀ k ∈ ks, k ∉ c) : ∀ nd ∈ br ks c b, Good S m nd := by
  induction ks generalizing b with
  | nil => intro nd h; exact absurd h (by simp [br])
  | cons k ks ih =>
    unfold br
    split
    · exact ih hb hbn (fun x hx => hk x (by simp [hx])) (fun x hx => hn x (by simp [hx]))
    · rename_i hkb
      intro nd h
      rcases List.mem_cons.1 h with rfl | h
      · refine ⟨?_, ?_, hb, hbn, by simp; omega⟩
        · refine List.nodup_append.2 ⟨hc, by simp, ?_⟩
          intro a ha x hx
          have : x = k := by simpa using hx
          subst this
          exact fun e => hn x (by simp) (e ▸ ha)
        · intro x hx
          rcases List.mem_append.1 hx with hx | hx
          · exact hs x hx
          · have : x = k := by simpa using hx
            exact this ▸ hk k (by simp)
      · refine ih (b := b ++ [k]) ?_ (List.nodup_append.2 ⟨hbn, by simp, fun a ha x hx => by
          have : x = k := by simpa using hx
          subst this
          exact fun e => hkb (e ▸ ha)⟩) (fun x hx => hk x (by simp [hx])) (fun x hx => hn x (by simp [hx])) nd h
        intro x hx
        rcases List.mem_append.1 hx with hx | hx
        · exact hb x hx
        · have : x = k := by simpa using hx
          exact this ▸ hk k (by simp)
theorem not_hit {S e c} (h2 : hit S e c = false) : ∀ k ∈ hol S e, k ∉ c := by
  intro x hx hxc
  have : hit S e c = true := hit_iff.2 ⟨x, hxc, (mem_hol.1 hx).2⟩
  rw [h2] at this; exact absurd this (by decide)
theorem push_good {S m e c b st} (G : ∀ nd ∈ (c, b) :: st, Good S m nd) (h2 : hit S e c = false) : ∀ nd ∈ push S m e c b st, Good S m nd := by
  intro nd h
  unfold push at h
  have g := G (c, b) (by simp)
  split at h
  · rename_i hl
    rcases List.mem_append.1 h with h | h
    · exact br_good g.un hl g.lt g.blt g.bun (fun k hk => (mem_hol.1 hk).1) (not_hit h2) nd h
    · exact G nd (by simp [h])
  · exact G nd (by simp [h])
theorem good_start {S m} : ∀ nd ∈ [(([], []) : Node)], Good S m nd := by
  intro nd h
  have : nd = ([], []) := by simpa using h
  subst this
  exact ⟨by simp, by simp, by simp, by simp, Nat.zero_le _⟩
theorem small_nodup {l : List Nat} {n : Nat} (h : l.Nodup) (hl : ∀ k ∈ l, k < n) : l.length ≤ n := by
  have := nodup_len h (C := List.range n) (fun k hk => List.mem_range.2 (hl k hk))
  rwa [List.length_range] at this
theorem br_len {c} : ∀ {ks b : List Nat}, (br ks c b).length ≤ ks.length
  | [], b => Nat.le_refl _
  | k :: ks, b => by
    unfold br
    split
    · exact Nat.le_succ_of_le br_len
    · exact Nat.succ_le_succ br_len
/-! how many steps -/
def free (n : Nat) (c b : List Nat) : Nat := ((List.range n).filter (fun k => decide (k ∉ c ∧ k ∉ b))).length
def wt (n : Nat) : List Node → Nat
  | [] => 0
  | nd :: st => 2 ^ free n nd.1 nd.2 + wt n st
theorem wt_app {n x y} : wt n (x ++ y) = wt n x + wt n y := by
  induction x with
  | nil => simp [wt]
  | cons a t ih => simp only [List.cons_append, wt, ih]; omega
theorem filt_lt {l : List Nat} {p q : Nat → Bool} (hi : ∀ k, q k = true → p k = true) {k} (hk : k ∈ l) (hp : p k = true) (hq : q k = false) : (l.filter q).length < (l.filter p).length := by
  have hle : ∀ l : List Nat, (l.filter q).length ≤ (l.filter p).length := by
    intro l
    induction l with
    | nil => simp
    | cons a t ih =>
      by_cases hqa : q a = true
      · rw [List.filter_cons_of_pos hqa, List.filter_cons_of_pos (hi a hqa)]; simp; exact ih
      · rw [List.filter_cons_of_neg hqa]
        by_cases hpa : p a = true
        · rw [List.filter_cons_of_pos hpa]; simp; omega
        · rw [List.filter_cons_of_neg hpa]; exact ih
  induction l with
  | nil => exact absurd hk (by simp)
  | cons a t ih =>
    rcases List.mem_cons.1 hk with rfl | hk
    · rw [List.filter_cons_of_neg (by simp [hq]), List.filter_cons_of_pos hp]
      have := hle t
      simp; omega
    · have := ih hk
      by_cases hqa : q a = true
      · rw [List.filter_cons_of_pos hqa, List.filter_cons_of_pos (hi a hqa)]; simp; exact this
      · rw [List.filter_cons_of_neg hqa]
        by_cases hpa : p a = true
        · rw [List.filter_cons_of_pos hpa]; simp; omega
        · rw [List.filter_cons_of_neg hpa]; exact this
theorem free_c {n c b k} (h : k < n) (hc : k ∉ c) (hb : k ∉ b) : free n (c ++ [k]) b + 1 ≤ free n c b :=
  filt_lt (p := fun k => decide (k ∉ c ∧ k ∉ b)) (q := fun x => decide (x ∉ c ++ [k] ∧ x ∉ b)) (fun x hx => by simp at *; exact ⟨hx.1.1, hx.2⟩) (List.mem_range.2 h) (by simp [hc, hb]) (by simp)
theorem free_b {n c b k} (h : k < n) (hc : k ∉ c) (hb : k ∉ b) : free n c (b ++ [k]) + 1 ≤ free n c b :=
  filt_lt (p := fun k => decide (k ∉ c ∧ k ∉ b)) (q := fun x => decide (x ∉ c ∧ x ∉ b ++ [k])) (fun x hx => by simp at *; exact ⟨hx.1, hx.2.1⟩) (List.mem_range.2 h) (by simp [hc, hb]) (by simp)
theorem wt_br {n ks c b} (hk : ∀ k ∈ ks, k < n) (hn : ∀ k ∈ ks, k ∉ c) : wt n (br ks c b) + 1 ≤ 2 ^ free n c b := by
  induction ks generalizing b with
  | nil => simp [br, wt]; exact Nat.one_le_two_pow
  | cons k ks ih =>
    unfold br
    split
    · exact ih (fun x hx => hk x (by simp [hx])) (fun x hx => hn x (by simp [hx]))
    · rename_i hb
      have h1 := ih (b := b ++ [k]) (fun x hx => hk x (by simp [hx])) (fun x hx => hn x (by simp [hx]))
      have h2 := free_c (hk k (by simp)) (hn k (by simp)) hb
      have h3 := free_b (hk k (by simp)) (hn k (by simp)) hb
      have h4 : 2 ^ free n (c ++ [k]) b ≤ 2 ^ (free n c b - 1) := Nat.pow_le_pow_right (by decide) (by omega)
      have h5 : 2 ^ free n c (b ++ [k]) ≤ 2 ^ (free n c b - 1) := Nat.pow_le_pow_right (by decide) (by omega)
      have h6 : 2 ^ free n c b = 2 ^ (free n c b - 1) * 2 := by rw [← Nat.pow_succ]; congr 1; omega
      simp only [wt]; omega
theorem wt_push {S m e c b st} (h2 : hit S e c = false) : wt S.length (push S m e c b st) + 1 ≤ wt S.length ((c, b) :: st) := by
  unfold push
  simp only [wt]
  split
  · rw [wt_app]
    have := wt_br (n := S.length) (ks := hol S e) (c := c) (b := b) (fun k hk => (mem_hol.1 hk).1) (not_hit h2)
    omega
  · have : 1 ≤ 2 ^ free S.length c b := Nat.one_le_two_pow
    omega
theorem wt_start {n} (h : n < 7) : wt n [([], [])] ≤ 64 := by
  simp only [wt]
  have : free n [] [] ≤ 6 := by
    have := List.length_filter_le (fun k => decide (k ∉ ([] : List Nat) ∧ k ∉ ([] : List Nat))) (List.range n)
    rw [List.length_range] at this
    unfold free; omega
  have := Nat.pow_le_pow_right (n := 2) (by decide) this
  omega
/-! the choices -/
def ch (m : Nat) : Nat → List (List Nat)
  | 0 => [[]]
  | k + 1 => ch m k ++ ((ch m k).filter (fun c => decide (c.length < m))).map (· ++ [k])
theorem ch_ok {m n c} (h : c ∈ ch m n) : c.length ≤ m ∧ ∀ k ∈ c, k < n := by
  induction n generalizing c with
  | zero => simp [ch] at h; subst h; simp
  | succ n ih =>
    rcases List.mem_append.1 h with h | h
    · exact ⟨(ih h).1, fun k hk => Nat.lt_succ_of_lt ((ih h).2 k hk)⟩
    · obtain ⟨d, hd, rfl⟩ := List.mem_map.1 h
      have hd := List.mem_filter.1 hd
      have i := ih hd.1
      have hl : d.length < m := by simpa using hd.2
      refine ⟨by simp; omega, fun k hk => ?_⟩
      rcases List.mem_append.1 hk with hk | hk
      · exact Nat.lt_succ_of_lt (i.2 k hk)
      · have : k = n := by simpa using hk
        omega
theorem ch_mem {m n} {p : Nat → Bool} (h : ((List.range n).filter p).length ≤ m) : (List.range n).filter p ∈ ch m n := by
  induction n with
  | zero => simp [ch]
  | succ n ih =>
    rw [List.range_succ, List.filter_append] at h ⊢
    by_cases hp : p n = true
    · rw [List.filter_cons_of_pos hp, List.filter_nil] at h ⊢
      simp at h
      refine List.mem_append_right _ (List.mem_map.2 ⟨_, List.mem_filter.2 ⟨ih (by omega), by simp; omega⟩, rfl⟩)
    · rw [List.filter_cons_of_neg hp, List.filter_nil, List.append_nil] at h ⊢
      exact List.mem_append_left _ (ih h)
def can (S : List (List Nat)) (m : Nat) : Prop := ∃ C, Ok S m C
theorem can_ch {S m} : can S m ↔ ∃ c ∈ ch m S.length, ∀ e, hol S e ≠ [] → hit S e c = true := by
  constructor
  · rintro ⟨C, O⟩
    have hn : ((List.range S.length).filter (fun k => decide (k ∈ C))).length ≤ C.length :=
      nodup_len (List.Nodup.sublist List.filter_sublist List.nodup_range) (fun k hk => by simpa using (List.mem_filter.1 hk).2)
    refine ⟨_, ch_mem (p := fun k => decide (k ∈ C)) (Nat.le_trans hn O.len), fun e he => ?_⟩
    obtain ⟨k, hk, hke⟩ := hit_iff.1 (O.all e he)
    exact hit_iff.2 ⟨k, List.mem_filter.2 ⟨List.mem_range.2 (O.lt k hk), by simpa using hk⟩, hke⟩
  · rintro ⟨c, hc, h⟩
    exact ⟨c, (ch_ok hc).1, (ch_ok hc).2, h⟩
theorem good_can {S m nd} (g : Good S m nd) (h : ∀ e, hol S e ≠ [] → hit S e nd.1 = true) : can S m := ⟨nd.1, g.len, g.lt, h⟩
theorem br_in {k ks c b} (h : k ∈ b) : br (k :: ks) c b = br ks c b := if_pos h
theorem br_out {k ks c b} (h : ¬ k ∈ b) : br (k :: ks) c b = (c ++ [k], b) :: br ks c (b ++ [k]) := if_neg h
/-! holders with doubles -/
theorem br_dbl {k ks c b} : br (k :: k :: ks) c b = br (k :: ks) c b := by
  by_cases h : k ∈ b
  · simp [br, h]
  · simp [br, h]
/-! ### holders as the program lays them -/
def addE (k : Nat) (g : Nat → List Nat) (e : Nat) : Nat → List Nat := fun x => if x = e then g x ++ [k] else g x
def evFold (g : Nat → List Nat) (k : Nat) (s : List Nat) : Nat → List Nat := s.foldl (addE k) g
def fillS : (Nat → List Nat) → Nat → List (List Nat) → Nat → List Nat
  | g, _, [] => g
  | g, k, s :: S => fillS (evFold g k s) (k + 1) S
def holR : Nat → List (List Nat) → Nat → List Nat
  | _, [], _ => []
  | k, s :: S, x => List.replicate (s.count x) k ++ holR (k + 1) S x
def holF : Nat → List (List Nat) → Nat → List Nat
  | _, [], _ => []
  | k, s :: S, x => (if s.contains x then [k] else []) ++ holF (k + 1) S x
theorem evFold_eq {k x : Nat} : ∀ {s : List Nat} {g : Nat → List Nat}, evFold g k s x = g x ++ List.replicate (s.count x) k
  | [], g => by simp [evFold]
  | e :: s, g => by
    have h := evFold_eq (k := k) (x := x) (s := s) (g := addE k g e)
    show evFold (addE k g e) k s x = _
    rw [h]
    unfold addE
    by_cases q : x = e
    · subst q
      rw [if_pos rfl, List.count_cons_self, List.append_assoc, List.replicate_succ]
      rfl
    · rw [if_neg q, List.count_cons_of_ne (Ne.symm q)]
theorem fillS_eq {x : Nat} : ∀ {S : List (List Nat)} {k : Nat} {g : Nat → List Nat}, fillS g k S x = g x ++ holR k S x
  | [], k, g => by simp [fillS, holR]
  | s :: S, k, g => by
    show fillS (evFold g k s) (k + 1) S x = _
    rw [fillS_eq, evFold_eq]
    simp [holR]
theorem fill0 {S : List (List Nat)} {x : Nat} : fillS (fun _ => []) 0 S x = holR 0 S x := by
  rw [fillS_eq]
  rfl
theorem br_congr {k : Nat} {L L' : List Nat} (h : ∀ c b, br L c b = br L' c b) (c b : List Nat) : br (k :: L) c b = br (k :: L') c b := by
  by_cases q : k ∈ b
  · rw [br_in q, br_in q, h]
  · rw [br_out q, br_out q, h]
theorem br_rep {k : Nat} {L L' : List Nat} (h : ∀ c b, br L c b = br L' c b) : ∀ (m : Nat) (c b : List Nat), br (List.replicate (m + 1) k ++ L) c b = br (k :: L') c b
  | 0, c, b => br_congr h c b
  | m + 1, c, b => by
    have ih := br_rep (k := k) h m c b
    rw [List.replicate_succ, List.replicate_succ]
    show br (k :: k :: (List.replicate m k ++ L)) c b = _
    rw [br_dbl]
    exact ih
theorem br_hol {x : Nat} : ∀ {S : List (List Nat)} {k : Nat} (c b : List Nat), br (holR k S x) c b = br (holF k S x) c b
  | [], k, c, b => rfl
  | s :: S, k, c, b => by
    unfold holR holF
    by_cases q : x ∈ s
    · have h1 : s.contains x = true := by simpa using q
      obtain ⟨m, hm⟩ : ∃ m, s.count x = m + 1 := ⟨s.count x - 1, by have := List.count_pos_iff.mpr q; omega⟩
      rw [if_pos h1, hm]
      exact br_rep (fun c b => br_hol c b) m c b
    · have h1 : ¬ s.contains x = true := by simpa using q
      rw [if_neg h1, List.count_eq_zero.mpr q]
      exact br_hol c b
theorem holF_eq {x : Nat} : ∀ {S : List (List Nat)} {k : Nat}, holF k S x = (List.range' k S.length).filter (fun i => (S.getD (i - k) []).contains x)
  | [], k => by simp [holF]
  | s :: S, k => by
    have ih := holF_eq (x := x) (S := S) (k := k + 1)
    unfold holF
    rw [ih, List.length_cons, List.range'_succ, List.filter_cons]
    have e : (List.range' (k + 1) S.length).filter (fun i => (S.getD (i - (k + 1)) []).contains x) = (List.range' (k + 1) S.length).filter (fun i => ((s :: S).getD (i - k) []).contains x) := by
      refine List.filter_congr fun i hi => ?_
      have h1 := (List.mem_range'_1.mp hi).1
      obtain ⟨j, rfl⟩ : ∃ j, i = k + 1 + j := ⟨i - (k + 1), by omega⟩
      have e1 : k + 1 + j - (k + 1) = j := by omega
      have e2 : k + 1 + j - k = j + 1 := by omega
      rw [e1, e2]
      rfl
    rw [e]
    have e3 : ((s :: S).getD (k - k) []).contains x = s.contains x := by
      rw [Nat.sub_self]
      rfl
    rw [e3]
    split <;> simp
theorem hol_eq {S : List (List Nat)} {x : Nat} : hol S x = holF 0 S x := by
  rw [holF_eq, hol, List.range_eq_range']
  rfl
theorem br_holS {S : List (List Nat)} {x : Nat} (c b : List Nat) : br (holR 0 S x) c b = br (hol S x) c b := by rw [br_hol, hol_eq]
theorem mem_holR {x i : Nat} : ∀ {S : List (List Nat)} {k : Nat}, i ∈ holR k S x ↔ i ∈ holF k S x
  | [], k => Iff.rfl
  | s :: S, k => by
    unfold holR holF
    rw [List.mem_append, List.mem_append, mem_holR, List.mem_replicate]
    by_cases q : x ∈ s
    · have h1 : s.contains x = true := by simpa using q
      have hp := List.count_pos_iff.mpr q
      rw [if_pos h1]
      constructor
      · rintro (⟨_, rfl⟩ | z)
        · exact .inl (List.mem_singleton.mpr rfl)
        · exact .inr z
      · intro z
        rcases z with z | z
        · exact .inl ⟨by omega, List.mem_singleton.mp z⟩
        · exact .inr z
    · have h1 : ¬ s.contains x = true := by simpa using q
      rw [if_neg h1, List.count_eq_zero.mpr q]
      simp
theorem mem_holS {S : List (List Nat)} {x i : Nat} : i ∈ holR 0 S x ↔ i ∈ hol S x := by rw [mem_holR, hol_eq]
theorem nil_iff {α : Type} {L L' : List α} (h : ∀ i, i ∈ L ↔ i ∈ L') : L = [] ↔ L' = [] := by
  rw [List.eq_nil_iff_forall_not_mem, List.eq_nil_iff_forall_not_mem]
  exact ⟨fun z i hi => z i ((h i).mpr hi), fun z i hi => z i ((h i).mp hi)⟩
theorem nil_holS {S : List (List Nat)} {x : Nat} : holR 0 S x = [] ↔ hol S x = [] := nil_iff fun _ => mem_holS
theorem hit_holS {S : List (List Nat)} {x : Nat} {c : List Nat} (hc : ∀ k ∈ c, k < S.length) : c.any (holR 0 S x).contains = hit S x c := by
  unfold hit
  induction c with
  | nil => rfl
  | cons k c ih =>
    rw [List.any_cons, List.any_cons, ih fun j hj => hc j (List.mem_cons_of_mem _ hj)]
    congr 1
    have h1 := hc k List.mem_cons_self
    have h2 : (holR 0 S x).contains k = true ↔ holds S x k = true := by
      rw [List.contains_iff_mem, mem_holS, mem_hol]
      exact ⟨fun z => z.2, fun z => ⟨h1, z⟩⟩
    cases z1 : (holR 0 S x).contains k <;> cases z2 : holds S x k <;> rw [z1, z2] at h2 <;> simp at h2 <;> rfl
theorem holR_len {x : Nat} : ∀ {S : List (List Nat)} {k : Nat}, (∀ s ∈ S, s.length ≤ 5) → (holR k S x).length ≤ 5 * S.length
  | [], k, _ => Nat.zero_le _
  | s :: S, k, h => by
    have h1 := holR_len (x := x) (S := S) (k := k + 1) fun s hs => h s (List.mem_cons_of_mem _ hs)
    have h2 := h s List.mem_cons_self
    have h3 := List.count_le_length (a := x) (l := s)
    unfold holR
    rw [List.length_append, List.length_replicate, List.length_cons]
    omega
theorem hol_ne {S : List (List Nat)} {e : Nat} : hol S e ≠ [] ↔ ∃ s ∈ S, e ∈ s := by
  constructor
  · intro h
    obtain ⟨k, hk⟩ := List.exists_mem_of_ne_nil _ h
    obtain ⟨h1, h2⟩ := mem_hol.mp hk
    unfold holds at h2
    rw [List.getD_eq_getElem?_getD, List.getElem?_eq_getElem h1] at h2
    exact ⟨S[k], List.getElem_mem _, by simpa using h2⟩
  · rintro ⟨s, hs, he⟩ h
    obtain ⟨k, hk, e1⟩ := List.getElem_of_mem hs
    have : k ∈ hol S e := mem_hol.mpr ⟨hk, by
      unfold holds
      rw [List.getD_eq_getElem?_getD, List.getElem?_eq_getElem hk]
      simpa [e1] using he⟩
    rw [h] at this
    exact absurd this (by simp)
end WX
/-! WXD: setdefault of a dict of tuples, in over tuples of data, str of a text or an int. -/
namespace WXD
open PySem PySem.Spec PyProof.Rows L2 Wy
section
variable {X : Cx} {pins : List (Addr × Obj)} {σ : L2.St} {H : Hp} {s : Shared} {a b : Addr} {u r : Value} {d : V} {k : List Key} {A : Around} {E : Value → Shared → Prop}
theorem d_setdT {kvs : List (List Key × V)} {Q : Value → Shared → Prop} (hu : A.units + 1 < cLine) (I : Inv X pins σ H s) (e : H a = some (.dT kvs)) (eb : H b = some (.tup (k.map kV))) (rd : RelV d r) (hl : kvs.length < sizeLine)
    (h1 : ∀ v, valV kvs k = some v → ∀ (w' : Value) (s' : Shared), Inv X pins σ H s' → RelV v w' → Q w' s') (h2 : valV kvs k = none → ∀ (w' : Value) (s' : Shared), Inv X pins σ (upd H a (.dT (putK kvs k d))) s' → RelV d w' → Q w' s') :
    wpAny (model X.prog X.w) A (call (.builtin "dict.setdefault") [.ref a, .ref b, r]) Q E s := by
  obtain ⟨z, hd, xs, rel, dd⟩ := dt_of I.hok e
  have hz : xs.length ≤ sizeLine := by rw [← Paired.length rel]; exact z
  refine call_setdefault_heap (hsz := hz) (tupleKind_room_in1 hu) (key_of I.hok eb) hd dd (fun p hp => ?_) fun hn h' dd' hs => ?_
  · have q := rel.val k
    rw [hp] at q
    cases q0 : valV kvs k with
    | none => rw [q0] at q; exact (show False from q).elim
    | some v0 => rw [q0] at q; exact h1 v0 q0 _ _ (I.tok _) q
  · have q := rel.val k
    rw [hn] at q
    cases q0 : valV kvs k with
    | some v0 => rw [q0] at q; exact (show False from q).elim
    | none =>
      have hl2 : (putK kvs k d).length ≤ sizeLine := by
        have := length_putK kvs k d
        omega
      obtain ⟨ob, es, ep, hq, g2, g3, g4, _, g5⟩ := dd'
      refine h2 q0 _ _ (d_write I (by rw [e]; exact True.intro) hs ⟨ob, hq⟩ ⟨hl2, hd, _, (rel.put k eb rd).keeps fun c ys ec => ?_, ob, es, ep, hq, g2, g3, g4, g5⟩) rd
      rw [upd_ne (ne_of ec e (fun z => nomatch z))]
      exact ec
end
/-- d.setdefault(y, z), d a dict of tuples -/
def tDSetdT (td ty tx : TE) : TE := fun σ H Q => td σ H fun x H1 => ∃ a kvs0, x = .ref a ∧ H1 a = some (.dT kvs0) ∧ ty σ H1 fun y H2 => tx σ H2 fun z H3 => ∃ (kvs : List (List Key × V)) (k : List Key) (b : Addr), H3 a = some (.dT kvs) ∧ y = .ref b ∧ H3 b = some (.tup (k.map kV)) ∧ kvs.length < sizeLine ∧
  (∀ v, valV kvs k = some v → Q v H3) ∧ (valV kvs k = none → Q z (upd H3 a (.dT (putK kvs k z))))
section
variable {X : Cx} {o e f : Expr} {td ty tx : TE} {apos cpos : Pos}
theorem pe_dsetdT (hu : X.A.units + 1 < cLine) (ho : PE X o td) (he : PE X e ty) (hf : PE X f tx) (m : M2 X o "setdefault" apos e f cpos) : PE X (.Call (.Attribute o "setdefault" apos) [e, f] [] cpos) (tDSetdT td ty tx) := by
  refine ⟨fun pins s σ H Q I h => ?_⟩
  refine wpAny_Call_method m.base m.few m.line PySem.F.plainAttrs_dict PySem.F.slot_dict_setdefault PySem.F.type_dict_setdefault (thn (ho.run pins s σ H _ I h) fun u s1 ⟨x, H1, I1, rx, a, kvs0, ex, d, q1⟩ => ?_)
  subst ex
  obtain rfl : u = Value.ref a := rx
  obtain ⟨t1, t2, _⟩ := isD_at I1 (.inr ⟨kvs0, .inl d⟩)
  refine ⟨t1, t2, ?_⟩
  rw [m.trees]
  refine Calls.callWith_builtin rfl (Calls.evalArgs_plain (Calls.spliced_cons (thn (he.run pins s1 σ H1 _ I1 q1) fun iv s2 ⟨y, H2, I2, ry, q2⟩ =>
    Calls.spliced_cons (thn (hf.run pins s2 σ H2 _ I2 q2) fun fv s3 ⟨z, H3, I3, rz, kvs, k, b, ea, ey, eb, hl, q3, q4⟩ => Calls.spliced_nil ?_))))
  subst ey
  obtain rfl : iv = Value.ref b := ry
  exact d_setdT hu I3 ea eb rz hl (fun v hv w' s4 I4 rw' => ⟨v, _, I4, rw', q3 v hv⟩) fun hn w' s4 I4 rw' => ⟨z, _, I4, rw', q4 hn⟩
end
/-! ### x in t, t a tuple or list of data -/
def rInT (K : PySem.W.Frag) (neg : Bool) : R2 := fun x y H Q => ∃ d ds, Dp K H x d ∧ Dp K H y (.tuple ds) ∧ SeqAt.shaped d = true ∧ SeqAt.shaped (.tuple ds) = true ∧ Q (.bl (if neg then !ds.any fun z => PyData.eqv z d else ds.any fun z => PyData.eqv z d)) H
section
variable {X : Cx}
theorem op_inT (hu : X.A.units + 65 < cLine) : OpR X (compareOp .In) (rInT X.K false) := by
  intro pins s σ H x y v u Q I rx ry h
  obtain ⟨d, ds, hd, he, sd, se, q⟩ := h
  obtain ⟨as, r1⟩ := Dp.reads I d x v hd rx
  obtain ⟨bs, r2⟩ := Dp.reads I (.tuple ds) y u he ry
  exact SeqAt.in_tuple_reads r2 r1 (SeqAt.canLay_of_shaped se) (SeqAt.canLay_of_shaped sd) (room_in_shaped sd hu) ⟨.bl _, H, I, rfl, q⟩
theorem op_notInT (hu : X.A.units + 65 < cLine) : OpR X (compareOp .NotIn) (rInT X.K true) := by
  intro pins s σ H x y v u Q I rx ry h
  obtain ⟨d, ds, hd, he, sd, se, q⟩ := h
  obtain ⟨as, r1⟩ := Dp.reads I d x v hd rx
  obtain ⟨bs, r2⟩ := Dp.reads I (.tuple ds) y u he ry
  exact SeqAt.notIn_tuple_reads r2 r1 (SeqAt.canLay_of_shaped se) (SeqAt.canLay_of_shaped sd) (room_in_shaped sd hu) ⟨.bl _, H, I, rfl, q⟩
def rStrA : List V → Hp → VK → Prop := fun xs H Q => (∃ i, xs = [.int i] ∧ i.natAbs.log2 < 1920 ∧ Q (.str (toString i)) H) ∨ ∃ a, xs = [.str a] ∧ Q (.str a) H
theorem call_strA : CallR X (.type "str") rStrA := by
  intro pins s σ H xs us Q I r h
  rcases h with ⟨i, rfl, hz, q⟩ | ⟨a, rfl, q⟩
  · obtain ⟨u, rfl, t, rfl⟩ := vals1 r
    exact PySem.P.str_of_int hz ⟨.str _, H, I.tok _, ⟨_, rfl⟩, q⟩
  · obtain ⟨u, rfl, t, rfl⟩ := vals1 r
    exact PySem.P.str_of_str ⟨.str a, H, I, ⟨t, rfl⟩, q⟩
end
open WN WQ WS WC WE
/-! ### steps -/
section
variable {X : Cx}
def rAnyB (K : PySem.W.Frag) : List V → Hp → VK → Prop := rAny K
theorem cc_any (X : Cx) (h : X.calm = true) : CallR X (.builtin "any") (rAnyB X.K) := cr_any h
def rSortS (K : PySem.W.Frag) : List V → Hp → VK → Prop := rSortedS K
theorem cc_sortedS (X : Cx) (_ : X.calm = true) : CallR X (.builtin "sorted") (rSortS X.K) := cr_sortedS
end
section
variable {K : PySem.W.Frag} {σ : L2.St} {H : Hp} {Q : VK} {te td ty tx : TE} {tt : TT} {a l b : Addr} {xs ys : List V} {y : V} {vs : List Nat} {i : Nat} {J : It}
theorem e_setd (h : td σ H fun x H1 => ∃ a kvs0, x = .ref a ∧ H1 a = some (.dT kvs0) ∧ ty σ H1 fun y H2 => tx σ H2 fun z H3 => ∃ (kvs : List (List Key × V)) (k : List Key) (b : Addr), H3 a = some (.dT kvs) ∧ y = .ref b ∧ H3 b = some (.tup (k.map kV)) ∧ kvs.length < sizeLine ∧
  (∀ v, valV kvs k = some v → Q v H3) ∧ (valV kvs k = none → Q z (upd H3 a (.dT (putK kvs k z))))) : tDSetdT td ty tx σ H Q := h
theorem e_dnewT (h : ∀ p H2, H p = none → Same H H2 → H2 p = some (.dT []) → Q (.ref p) H2) : tDNewT σ H Q := fun p np => h p _ np (same_new np) upd_same
theorem e_din (h : ty σ H fun y H1 => td σ H1 fun x H2 => ∃ a o, x = .ref a ∧ DGet H2 a y o ∧ Q (.bl o.isSome) H2) : tDIn ty td σ H Q := h
theorem e_dnotin (h : ty σ H fun y H1 => td σ H1 fun x H2 => ∃ a o, x = .ref a ∧ DGet H2 a y o ∧ Q (.bl (!o.isSome)) H2) : tDNotIn ty td σ H Q := h
theorem kd_t {kvs : List (List Key × V)} {k : List Key} {v : V} (e : H a = some (.dT kvs)) (eb : H b = some (.tup (k.map kV))) (g : valV kvs k = some v) (h : Q v H) : WD.KD (.ref a) (.ref b) H Q :=
  ⟨a, v, rfl, g ▸ DGet.t e eb, h⟩
theorem e_lockE {u : HO} (e : H a = some u) (m : Mut (some u)) (h : ∀ od H1, H1 a = some (.frz od u) → (∀ b o, b ≠ a → H b = some o → H1 b = some o) → (∀ b, H1 b = none → H b = none) →
    te σ H1 fun v H' => H' a = some (.frz od u) ∧ Q v (upd H' a u)) : tLockE te σ H Q := ⟨a, u, e, m, fun od => h od _ upd_same (fun b o n q => by rw [upd_ne n]; exact q) fun b q => by
  by_cases n : b = a
  · subst n
    rw [upd_same] at q
    cases q
  · rwa [upd_ne n] at q⟩
theorem b_sortS {xs : List Str} (hs : SqL K H a (xs.map V.str)) (hz : xs.length < 64) (h : ∀ p H2 (zs : List Str), zs.Perm xs → H p = none → Same H H2 → H2 p = some (.lst (zs.map V.str)) → Q (.ref p) H2) : rSortS K [.ref a] H Q :=
  ⟨a, xs, rfl, hs, hz, fun zs p hp _ np => h p _ zs hp np (same_new np) upd_same⟩
theorem c_strI {i : Int} (hz : i.natAbs < 10 ^ 40) (h : Q (.str (toString i)) H) : rStrA [.int i] H Q := .inl ⟨i, rfl, log_small hz, h⟩
theorem c_strS {x : Str} (h : Q (.str x) H) : rStrA [.str x] H Q := .inr ⟨x, rfl, h⟩
/-- the keys of a dict of texts, each as a text -/
theorem c_keys {od : Obj} {kvs : List (Key × V)} (e : H a = some (.frz od (.dK kvs))) (hk : ∀ q ∈ kvs, ∃ x, q.1 = .inr x) (hz : kvs.length ≤ 100000) (hw : ∀ x, wipe ((wipe σ vs).set i (some x)) vs = wipe σ vs)
    (hte : ∀ x H1 (N : VK), Same H H1 → N (.str x) H1 → te ((wipe σ vs).set i (some (.str x))) H1 N)
    (post : ∀ D H2 (xs : List Str), H D = none → Same H H2 → H2 D = some (.lst (xs.map V.str)) → kvs.map (·.1) = xs.map Sum.inr → Q (.ref D) H2) : LoopC (Itk a od kvs) (gName i) tYes te vs σ H Q := by
  refine WO.c_it walk_keys (fun D i acc H1 => ∃ xs : List Str, acc = xs.map V.str ∧ (kvs.take i).map (·.1) = xs.map Sum.inr) (fun H' s => s _ _ e) (fun i H1 x H2 y => by rw [y.1]; exact Same.refl _) (small1000' hz)
    (fun D i acc H1 r => ?_) (fun D i acc H1 H2 c y r => r) (fun D H1 nD s1 e1 => ⟨[], rfl, rfl⟩) (fun D i x H1 H2 acc N M hi nD s1 e1 r y s2 hN hM => ?_) (fun D H2 ys nD s2 e2 r => ?_)
  · obtain ⟨xs, rfl, h2⟩ := r
    have := congrArg List.length h2
    rw [List.length_map, List.length_map, List.length_take] at this
    rw [List.length_map]
    omega
  · obtain ⟨xs, rfl, h2⟩ := r
    obtain ⟨rfl, k, v, g, rfl⟩ := y
    obtain ⟨z, hz⟩ := hk _ (List.mem_of_getElem? g)
    have hz : k = .inr z := hz
    subst hz
    refine g_name ⟨hw _, t_yes ?_⟩
    refine iteTT rfl (hte z H2 _ s1 (hN _ _ (Same.refl _) ⟨xs ++ [z], by rw [List.map_append]; rfl, ?_⟩))
    rw [List.take_add_one, g, List.map_append, h2, List.map_append]
    rfl
  · obtain ⟨xs, rfl, h2⟩ := r
    rw [List.take_of_length_le (Nat.le_refl _)] at h2
    exact post D H2 xs nD s2 e2 h2
theorem e_dgetT (h : td σ H fun x H1 => ty σ H1 fun y H2 => ∃ a v, x = .ref a ∧ DGet H2 a y (some v) ∧ Q v H2) : tDGet td ty σ H Q := h
theorem m_bm0 {T : String} {r : V → List V → Hp → VK → Prop} (h : te σ H fun x H1 => tyV K T x H1 ∧ r x [] H1 Q) : tBM0 K T r te σ H Q := h
theorem m_pop (e : H l = some (.lst (xs ++ [y]))) (h : ∀ H2, Chg l H H2 → H2 l = some (.lst xs) → Q y H2) : rPop (.ref l) [] H Q :=
  ⟨l, _, y, rfl, rfl, e, by simp, h _ chg_upd (by rw [List.dropLast_concat]; exact upd_same)⟩
theorem m_ext (e : H l = some (.lst xs)) (e2 : H b = some (.lst ys)) (hz : xs.length + ys.length ≤ sizeLine) (h : ∀ H2, Chg l H H2 → H2 l = some (.lst (xs ++ ys)) → Q .non H2) : rExtend (.ref l) [.ref b] H Q :=
  ⟨l, b, xs, ys, rfl, rfl, e, e2, hz, h _ chg_upd upd_same⟩
theorem b_any {bs : List Bool} (hs : SqL K H a (bs.map V.bl)) (h : Q (.bl (bs.any id)) H) : rAnyB K [.ref a] H Q := ⟨a, bs, rfl, hs, h⟩
/-- items of a list that pass a test, and what is made of each: as data -/
theorem c_sel {α : Type} {F G : α → PyData} {p : α → Bool} {us : List V} {zs : List α} (hJ : SqIt K a us J H) (t : TpAll H us (zs.map F)) (hz : zs.length ≤ 100000) (hw : ∀ x, wipe ((wipe σ vs).set i (some x)) vs = wipe σ vs)
    (ht : ∀ x u H1 (N : Bool → Hp → Prop), x ∈ zs → Tp H1 u (F x) → Same H H1 → (∀ H3, Same H1 H3 → N (p x) H3) → tt ((wipe σ vs).set i (some u)) H1 N)
    (hte : ∀ x u H1 (N : VK), x ∈ zs → p x = true → Tp H1 u (F x) → Same H H1 → (∀ y H3, Same H1 H3 → Tp H3 y (G x) → N y H3) → te ((wipe σ vs).set i (some u)) H1 N)
    (post : ∀ D H2 ys, H D = none → Same H H2 → H2 D = some (.lst ys) → TpAll H2 ys ((zs.filter p).map G) → Q (.ref D) H2) : LoopC J (gName i) tt te vs σ H Q := by
  have hl : us.length = zs.length := by have := t.length; rw [List.length_map] at this; exact this
  refine c_acc hJ (fun i acc H => TpAll H acc (((zs.take i).filter p).map G)) (fun i acc H H' k h => h.tk k) (fun i acc H hi h => ?_) .nil (fun j x H1 acc N M hx s1 r hN hM => ?_) (fun D H2 ys nD s2 e2 r => ?_)
  · have h1 := h.length
    have h2 := List.length_filter_le p (zs.take i)
    rw [List.length_map] at h1
    rw [List.length_take] at h2
    exact small1000' (by omega)
  · obtain ⟨z, hz1, tz⟩ := tpGet t hx
    have hm : z ∈ zs := List.mem_of_getElem? hz1
    have ek : zs.take (j + 1) = zs.take j ++ [z] := by
      rw [List.take_add_one, hz1]; rfl
    refine g_name ⟨hw _, ht z x H1 _ hm (tz.tk s1.tk) s1 fun H3 s3 => ?_⟩
    by_cases hp : p z = true
    · refine iteTT hp ?_
      refine hte z x H3 _ hm hp (tz.tk (s1.trans s3).tk) (s1.trans s3) fun y H4 s4 ty => hN y H4 (s3.trans s4) ?_
      show TpAll H4 (acc ++ [y]) _
      rw [ek, List.filter_append, List.filter_cons_of_pos hp, List.filter_nil, List.map_append]
      exact tpSnoc (r.tk (s3.trans s4).tk) ty
    · refine iteFF (Bool.eq_false_iff.mpr hp) (hM H3 s3 ?_)
      show TpAll H3 acc _
      rw [ek, List.filter_append, List.filter_cons_of_neg hp, List.filter_nil, List.append_nil]
      exact r.tk s3.tk
  · rw [hl, List.take_of_length_le (Nat.le_refl _)] at r
    exact post D H2 ys nD s2 e2 r
end
end WXD
namespace K39
open PySem PySem.Spec PyProof.Rows L2 Wy
/-! ### the text -/
def top (i : Nat) : Stmt := PySem.Challenge.pw_wayorring_k39_shortest_papers.main.body.getD i (.Pass ⟨0, 0, 0, 0⟩)
abbrev s_check_shortest : Stmt := top 1
abbrev n_check_shortest : List Str := ["sets", "many", "paper", "holders", "coming", "event", "chosen", "barred"]
theorem sc_check_shortest : FnScope n_check_shortest ["sets", "many", "paper"] (defScope s_check_shortest) := C8.fnScope_by (by decide +kernel)
abbrev s_branches : Stmt := top 2
abbrev n_branches : List Str := ["chosen", "barred", "holders", "many", "branches", "number"]
theorem sc_branches : FnScope n_branches ["chosen", "barred", "holders", "many"] (defScope s_branches) := C8.fnScope_by (by decide +kernel)
abbrev s_holders_of : Stmt := top 3
abbrev n_holders_of : List Str := ["sets", "holders", "number", "events", "event"]
theorem sc_holders_of : FnScope n_holders_of ["sets"] (defScope s_holders_of) := C8.fnScope_by (by decide +kernel)
abbrev s_one_is_in : Stmt := top 4
abbrev n_one_is_in : List Str := ["numbers", "others", "number"]
theorem sc_one_is_in : FnScope n_one_is_in ["numbers", "others"] (defScope s_one_is_in) := C8.fnScope_by (by decide +kernel)
abbrev s_law_draws : Stmt := top 6
abbrev n_law_draws : List Str := ["script", "many", "cell", "rests", "draws", "k", "at", "mixed"]
theorem sc_law_draws : FnScope n_law_draws ["script", "many"] (defScope s_law_draws) := C8.fnScope_by (by decide +kernel)
abbrev s_law_take : Stmt := top 7
abbrev n_law_take : List Str := ["hand", "many", "at", "draws"]
theorem sc_law_take : FnScope n_law_take ["hand", "many"] (defScope s_law_take) := C8.fnScope_by (by decide +kernel)
abbrev s_law_event : Stmt := top 8
abbrev n_law_event : List Str := ["number", "events"]
theorem sc_law_event : FnScope n_law_event ["number"] (defScope s_law_event) := C8.fnScope_by (by decide +kernel)
abbrev s_law_ascending : Stmt := top 9
abbrev n_law_ascending : List Str := ["events", "found", "event", "rest", "key"]
theorem sc_law_ascending : FnScope n_law_ascending ["events"] (defScope s_law_ascending) := C8.fnScope_by (by decide +kernel)
abbrev s_law_sets : Stmt := top 10
abbrev n_law_sets : List Str := ["hand", "sets", "most", "k", "events", "one", "j"]
theorem sc_law_sets : FnScope n_law_sets ["hand"] (defScope s_law_sets) := C8.fnScope_by (by decide +kernel)
abbrev s_law_all : Stmt := top 11
abbrev n_law_all : List Str := ["sets", "found", "one", "event"]
theorem sc_law_all : FnScope n_law_all ["sets"] (defScope s_law_all) := C8.fnScope_by (by decide +kernel)
abbrev s_law_branches : Stmt := top 12
abbrev n_law_branches : List Str := ["sets", "event", "chosen", "barred", "branches", "k"]
theorem sc_law_branches : FnScope n_law_branches ["sets", "event", "chosen", "barred"] (defScope s_law_branches) := C8.fnScope_by (by decide +kernel)
abbrev s_law_accepts : Stmt := top 13
abbrev n_law_accepts : List Str := ["sets", "many", "paper", "waiting", "event", "chosen", "barred", "one", "k"]
theorem sc_law_accepts : FnScope n_law_accepts ["sets", "many", "paper"] (defScope s_law_accepts) := C8.fnScope_by (by decide +kernel)
abbrev s_law_paper : Stmt := top 14
abbrev n_law_paper : List Str := ["hand", "sets", "many", "paper", "events", "waiting", "k", "chosen", "barred", "event", "left"]
theorem sc_law_paper : FnScope n_law_paper ["hand", "sets", "many"] (defScope s_law_paper) := C8.fnScope_by (by decide +kernel)
abbrev s_law_can_hold : Stmt := top 15
abbrev n_law_can_hold : List Str := ["sets", "many", "events", "choices", "k", "choice", "event"]
theorem sc_law_can_hold : FnScope n_law_can_hold ["sets", "many"] (defScope s_law_can_hold) := C8.fnScope_by (by decide +kernel)
abbrev s_law_drawn : Stmt := top 16
abbrev n_law_drawn : List Str := ["hand", "k"]
theorem sc_law_drawn : FnScope n_law_drawn ["hand"] (defScope s_law_drawn) := C8.fnScope_by (by decide +kernel)
abbrev s_law_spoilt : Stmt := top 17
abbrev n_law_spoilt : List Str := ["hand", "paper", "kind", "at"]
theorem sc_law_spoilt : FnScope n_law_spoilt ["hand", "paper"] (defScope s_law_spoilt) := C8.fnScope_by (by decide +kernel)
abbrev s_law_is_told : Stmt := top 18
abbrev n_law_is_told : List Str := ["sets", "many", "paper", "due", "passed", "handed", "answer", "again"]
theorem sc_law_is_told : FnScope n_law_is_told ["sets", "many", "paper", "due"] (defScope s_law_is_told) := C8.fnScope_by (by decide +kernel)
abbrev s_law : Stmt := top 19
abbrev n_law : List Str := ["script", "hand", "sets", "many", "paper", "t", "asked", "kind", "due"]
theorem sc_law : FnScope n_law ["script"] (defScope s_law) := C8.fnScope_by (by decide +kernel)
/-! ### what the top has made -/
structure Tx (K : PySem.W.Frag) (mg : Str → Option Value) : Prop where
  d_check_shortest : DefOk K mg "check_shortest" s_check_shortest
  d_branches : DefOk K mg "_branches" s_branches
  d_holders_of : DefOk K mg "_holders_of" s_holders_of
  d_one_is_in : DefOk K mg "_one_is_in" s_one_is_in
  d_law_draws : DefOk K mg "_law_draws" s_law_draws
  d_law_take : DefOk K mg "_law_take" s_law_take
  d_law_event : DefOk K mg "_law_event" s_law_event
  d_law_ascending : DefOk K mg "_law_ascending" s_law_ascending
  d_law_sets : DefOk K mg "_law_sets" s_law_sets
  d_law_all : DefOk K mg "_law_all" s_law_all
  d_law_branches : DefOk K mg "_law_branches" s_law_branches
  d_law_accepts : DefOk K mg "_law_accepts" s_law_accepts
  d_law_paper : DefOk K mg "_law_paper" s_law_paper
  d_law_can_hold : DefOk K mg "_law_can_hold" s_law_can_hold
  d_law_drawn : DefOk K mg "_law_drawn" s_law_drawn
  d_law_spoilt : DefOk K mg "_law_spoilt" s_law_spoilt
  d_law_is_told : DefOk K mg "_law_is_told" s_law_is_told
  d_law : DefOk K mg "law" s_law
  z_abs : mg "abs" = none
  z_any : mg "any" = none
  z_bool : mg "bool" = none
  z_enumerate : mg "enumerate" = none
  z_int : mg "int" = none
  z_isinstance : mg "isinstance" = none
  z_len : mg "len" = none
  z_list : mg "list" = none
  z_max : mg "max" = none
  z_range : mg "range" = none
  z_repr : mg "repr" = none
  z_sorted : mg "sorted" = none
  z_str : mg "str" = none
  z_tuple : mg "tuple" = none
/-! ### the head -/
def fn : List He.DefD := [⟨("check_shortest", none), "check_shortest", "check_shortest", defArgs s_check_shortest, defBody s_check_shortest, defScope s_check_shortest, [], []⟩, ⟨("_branches", none), "_branches", "_branches", defArgs s_branches, defBody s_branches, defScope s_branches, [], []⟩, ⟨("_holders_of", none), "_holders_of", "_holders_of", defArgs s_holders_of, defBody s_holders_of, defScope s_holders_of, [], []⟩, ⟨("_one_is_in", none), "_one_is_in", "_one_is_in", defArgs s_one_is_in, defBody s_one_is_in, defScope s_one_is_in, [], []⟩, ⟨("_law_draws", none), "_law_draws", "_law_draws", defArgs s_law_draws, defBody s_law_draws, defScope s_law_draws, [], []⟩, ⟨("_law_take", none), "_law_take", "_law_take", defArgs s_law_take, defBody s_law_take, defScope s_law_take, [], []⟩, ⟨("_law_event", none), "_law_event", "_law_event", defArgs s_law_event, defBody s_law_event, defScope s_law_event, [], []⟩, ⟨("_law_ascending", none), "_law_ascending", "_law_ascending", defArgs s_law_ascending, defBody s_law_ascending, defScope s_law_ascending, [], []⟩, ⟨("_law_sets", none), "_law_sets", "_law_sets", defArgs s_law_sets, defBody s_law_sets, defScope s_law_sets, [], []⟩, ⟨("_law_all", none), "_law_all", "_law_all", defArgs s_law_all, defBody s_law_all, defScope s_law_all, [], []⟩, ⟨("_law_branches", none), "_law_branches", "_law_branches", defArgs s_law_branches, defBody s_law_branches, defScope s_law_branches, [], []⟩, ⟨("_law_accepts", none), "_law_accepts", "_law_accepts", defArgs s_law_accepts, defBody s_law_accepts, defScope s_law_accepts, [], []⟩, ⟨("_law_paper", none), "_law_paper", "_law_paper", defArgs s_law_paper, defBody s_law_paper, defScope s_law_paper, [], []⟩, ⟨("_law_can_hold", none), "_law_can_hold", "_law_can_hold", defArgs s_law_can_hold, defBody s_law_can_hold, defScope s_law_can_hold, [], []⟩, ⟨("_law_drawn", none), "_law_drawn", "_law_drawn", defArgs s_law_drawn, defBody s_law_drawn, defScope s_law_drawn, [], []⟩, ⟨("_law_spoilt", none), "_law_spoilt", "_law_spoilt", defArgs s_law_spoilt, defBody s_law_spoilt, defScope s_law_spoilt, [], []⟩, ⟨("_law_is_told", none), "_law_is_told", "_law_is_told", defArgs s_law_is_told, defBody s_law_is_told, defScope s_law_is_told, [], []⟩, ⟨("law", none), "law", "law", defArgs s_law, defBody s_law, defScope s_law, [], []⟩]
def fa : List He.Fa := [.glo "check_shortest", .glo "_branches", .glo "_holders_of", .glo "_one_is_in", .glo "_law_draws", .glo "_law_take", .glo "_law_event", .glo "_law_ascending", .glo "_law_sets", .glo "_law_all", .glo "_law_branches", .glo "_law_accepts", .glo "_law_paper", .glo "_law_can_hold", .glo "_law_drawn", .glo "_law_spoilt", .glo "_law_is_told", .glo "law", .free "abs", .free "any", .free "bool", .free "enumerate", .free "int", .free "isinstance", .free "len", .free "list", .free "max", .free "range", .free "repr", .free "sorted", .free "str", .free "tuple"]
def ts : List He.Tab := []
def ex (K : PySem.W.Frag) : Bool := true
def tf : List He.Defn := []
abbrev R : PySem.W.OpenRow := PySem.W.OpenLaw.row PySem.Challenge.rw_wayorring_k39_shortest_papers
abbrev hk : PySem.W.Hook := He.hookX 4 fa fn ts tf ex
def ob (s : PySem.W.SharedT) : He.AlX := He.obsX 4 fa fn ts tf ex (HandSHeadRun.getT s)
theorem ob_eq (s : PySem.W.SharedT) : ob s = hk.obs s.abs := He.obsX_eq (HandSHeadRun.getT_eq s)
def loose : List Str := (["check_shortest", "_branches", "_holders_of", "_one_is_in", "_law_draws", "_law_take", "_law_event", "_law_ascending", "_law_sets", "_law_all", "_law_branches", "_law_accepts", "_law_paper", "_law_can_hold", "_law_drawn", "_law_spoilt", "_law_is_told"] : List Str)
set_option maxHeartbeats 0 in
theorem run (w : World) : HandSHeadRun.RunEq R (PySem.W.view R.prog [19]) hk ob 20000 loose w := by
  intro os
  kernel_rfl
theorem tx_of {w : World} {K : PySem.W.Frag} {h h2 : Heap} {mg : Str → Option Value} (X : K.In h) (G : h.Ns mainGlobals mg) (c2 : He.SaysX fa fn ts tf ex w h2 K) : Tx K mg := by
  have c := c2.t.d
  have m : ex K = true := c2.more
  refine ⟨?_, ?_, ?_, ?_, ?_, ?_, ?_, ?_, ?_, ?_, ?_, ?_, ?_, ?_, ?_, ?_, ?_, ?_, ?_, ?_, ?_, ?_, ?_, ?_, ?_, ?_, ?_, ?_, ?_, ?_, ?_, ?_⟩
  · obtain ⟨fd, F⟩ := c.def_ 0 rfl
    exact ⟨_, fd, F, He.glo_ok X G (c.fact 0 (f := .glo "check_shortest") rfl)⟩
  · obtain ⟨fd, F⟩ := c.def_ 1 rfl
    exact ⟨_, fd, F, He.glo_ok X G (c.fact 1 (f := .glo "_branches") rfl)⟩
  · obtain ⟨fd, F⟩ := c.def_ 2 rfl
    exact ⟨_, fd, F, He.glo_ok X G (c.fact 2 (f := .glo "_holders_of") rfl)⟩
  · obtain ⟨fd, F⟩ := c.def_ 3 rfl
    exact ⟨_, fd, F, He.glo_ok X G (c.fact 3 (f := .glo "_one_is_in") rfl)⟩
  · obtain ⟨fd, F⟩ := c.def_ 4 rfl
    exact ⟨_, fd, F, He.glo_ok X G (c.fact 4 (f := .glo "_law_draws") rfl)⟩
  · obtain ⟨fd, F⟩ := c.def_ 5 rfl
    exact ⟨_, fd, F, He.glo_ok X G (c.fact 5 (f := .glo "_law_take") rfl)⟩
  · obtain ⟨fd, F⟩ := c.def_ 6 rfl
    exact ⟨_, fd, F, He.glo_ok X G (c.fact 6 (f := .glo "_law_event") rfl)⟩
  · obtain ⟨fd, F⟩ := c.def_ 7 rfl
    exact ⟨_, fd, F, He.glo_ok X G (c.fact 7 (f := .glo "_law_ascending") rfl)⟩
  · obtain ⟨fd, F⟩ := c.def_ 8 rfl
    exact ⟨_, fd, F, He.glo_ok X G (c.fact 8 (f := .glo "_law_sets") rfl)⟩
  · obtain ⟨fd, F⟩ := c.def_ 9 rfl
    exact ⟨_, fd, F, He.glo_ok X G (c.fact 9 (f := .glo "_law_all") rfl)⟩
  · obtain ⟨fd, F⟩ := c.def_ 10 rfl
    exact ⟨_, fd, F, He.glo_ok X G (c.fact 10 (f := .glo "_law_branches") rfl)⟩
  · obtain ⟨fd, F⟩ := c.def_ 11 rfl
    exact ⟨_, fd, F, He.glo_ok X G (c.fact 11 (f := .glo "_law_accepts") rfl)⟩
  · obtain ⟨fd, F⟩ := c.def_ 12 rfl
    exact ⟨_, fd, F, He.glo_ok X G (c.fact 12 (f := .glo "_law_paper") rfl)⟩
  · obtain ⟨fd, F⟩ := c.def_ 13 rfl
    exact ⟨_, fd, F, He.glo_ok X G (c.fact 13 (f := .glo "_law_can_hold") rfl)⟩
  · obtain ⟨fd, F⟩ := c.def_ 14 rfl
    exact ⟨_, fd, F, He.glo_ok X G (c.fact 14 (f := .glo "_law_drawn") rfl)⟩
  · obtain ⟨fd, F⟩ := c.def_ 15 rfl
    exact ⟨_, fd, F, He.glo_ok X G (c.fact 15 (f := .glo "_law_spoilt") rfl)⟩
  · obtain ⟨fd, F⟩ := c.def_ 16 rfl
    exact ⟨_, fd, F, He.glo_ok X G (c.fact 16 (f := .glo "_law_is_told") rfl)⟩
  · obtain ⟨fd, F⟩ := c.def_ 17 rfl
    exact ⟨_, fd, F, He.glo_ok X G (c.fact 17 (f := .glo "law") rfl)⟩
  · exact He.free_ok X G (c.fact 18 (f := .free "abs") rfl)
  · exact He.free_ok X G (c.fact 19 (f := .free "any") rfl)
  · exact He.free_ok X G (c.fact 20 (f := .free "bool") rfl)
  · exact He.free_ok X G (c.fact 21 (f := .free "enumerate") rfl)
  · exact He.free_ok X G (c.fact 22 (f := .free "int") rfl)
  · exact He.free_ok X G (c.fact 23 (f := .free "isinstance") rfl)
  · exact He.free_ok X G (c.fact 24 (f := .free "len") rfl)
  · exact He.free_ok X G (c.fact 25 (f := .free "list") rfl)
  · exact He.free_ok X G (c.fact 26 (f := .free "max") rfl)
  · exact He.free_ok X G (c.fact 27 (f := .free "range") rfl)
  · exact He.free_ok X G (c.fact 28 (f := .free "repr") rfl)
  · exact He.free_ok X G (c.fact 29 (f := .free "sorted") rfl)
  · exact He.free_ok X G (c.fact 30 (f := .free "str") rfl)
  · exact He.free_ok X G (c.fact 31 (f := .free "tuple") rfl)
def spLaw (K : PySem.W.Frag) : Sp := fun vs H Q _ => ∃ (a : Addr) (ns : List Int), vs = [.ref a] ∧ SqL K H a (ns.map V.int) ∧ ns.length ≤ 63 ∧ ∀ H', Q (.bl true) H'
end K39
-- WIDE
namespace K39
open PySem PySem.Spec PyProof.Rows L2 Wy WN WQ WS WC WE WX WXD

/-! ### what the data are -/
abbrev nV (k : Nat) : V := .int (k : Int)
abbrev nI (k : Nat) : Int := (k : Int)
/-- a tuple of numbers -/
def nT (c : List Nat) : PyData := iT (c.map nI)
def ndD (x : Node) : PyData := .tuple [nT x.1, nT x.2]
def evK : Nat → List Key
  | 0 => [.inr "fault", .inl 5, .inr "index"]
  | 1 => [.inr "fault", .inl 5, .inr "range"]
  | 2 => [.inr "no", .inl 2]
  | 3 => [.inr "row", .inl 1]
  | 4 => [.inr "row", .inl 2]
  | 5 => [.inr "turn", .inl 2, .inl 1]
  | 6 => [.inr "turn", .inl 2, .inl 2]
  | 7 => [.inr "yes", .inl 2]
  | 8 => [.inr "yes", .inl 3]
  | _ => [.inr "turn", .inl 3, .inl 1]
def keyD : Key → PyData
  | .inl i => .int i
  | .inr x => .str x
def evD (e : Nat) : PyData := .tuple ((evK e).map keyD)
def setD (s : List Nat) : PyData := .tuple (s.map evD)
theorem evK_inj {a b : Nat} (ha : a < 10) (hb : b < 10) (h : evK a = evK b) : a = b := by
  have key : ∀ a < 10, ∀ b < 10, evK a = evK b → a = b := by decide +kernel
  exact key a ha b hb h
theorem keyD_inj {a b : Key} (h : keyD a = keyD b) : a = b := by
  cases a <;> cases b <;> simp [keyD] at h <;> rw [h]
theorem keys_inj : ∀ {a b : List Key}, a.map keyD = b.map keyD → a = b
  | [], [], _ => rfl
  | [], _ :: _, e => by simp at e
  | _ :: _, [], e => by simp at e
  | x :: xs, y :: ys, e => by
    rw [List.map_cons, List.map_cons] at e
    injection e with e1 e2
    rw [keyD_inj e1, keys_inj e2]
theorem evD_inj {a b : Nat} (ha : a < 10) (hb : b < 10) (h : evD a = evD b) : a = b := by
  unfold evD at h
  injection h with h
  exact evK_inj ha hb (keys_inj h)
theorem tp_key {H : Hp} : ∀ {ks : List Key} {us : List V}, TpAll H us (ks.map keyD) → us = ks.map kV
  | [], _, h => by cases h; rfl
  | .inl i :: ks, _, h => by
    cases h with
    | cons h1 h2 =>
      cases h1
      rw [tp_key h2]
      rfl
  | .inr x :: ks, _, h => by
    cases h with
    | cons h1 h2 =>
      cases h1
      rw [tp_key h2]
      rfl
theorem tp_ev {H : Hp} {v : V} {e : Nat} (h : Tp H v (evD e)) : ∃ b, v = .ref b ∧ H b = some (.tup ((evK e).map kV)) := by
  obtain ⟨a, us, rfl, e1, t⟩ := tpL h
  rw [tp_key t] at e1
  exact ⟨a, rfl, e1⟩
theorem evD_lay : ∀ e : Nat, (evD e).canLay0 = true ∧ (evD e).depth ≤ 1
  | 0 => by decide +kernel
  | 1 => by decide +kernel
  | 2 => by decide +kernel
  | 3 => by decide +kernel
  | 4 => by decide +kernel
  | 5 => by decide +kernel
  | 6 => by decide +kernel
  | 7 => by decide +kernel
  | 8 => by decide +kernel
  | n + 9 => by
    show (evD 9).canLay0 = true ∧ (evD 9).depth ≤ 1
    decide +kernel
theorem evD_sh (e : Nat) : SeqAt.shaped (evD e) = true := shaped_of (evD_lay e).1 (Nat.le_trans (evD_lay e).2 (by decide))
theorem setD_lay (s : List Nat) : (setD s).canLay0 = true ∧ (setD s).depth ≤ 2 := lay_tup fun x hx => by
  obtain ⟨k, _, rfl⟩ := List.mem_map.mp hx
  exact evD_lay k
theorem setD_sh (s : List Nat) : SeqAt.shaped (setD s) = true := shaped_of (setD_lay s).1 (Nat.le_trans (setD_lay s).2 (by decide))
theorem evsD_sh (s : List Nat) : SeqAt.shaped (.list (s.map evD)) = true := shL evD s 1 (by decide) fun x _ => evD_lay x
theorem setsD_sh (S : List (List Nat)) : SeqAt.shaped (.list (S.map setD)) = true := shL setD S 2 (by decide) fun x _ => setD_lay x
theorem key_nb (k : Key) : nb (keyD k) = true := by cases k <;> rfl
theorem evD_nb (e : Nat) : nb (evD e) = true := by
  show nbAll _ = true
  exact nb_all keyD _ fun k _ => key_nb k
theorem setD_nb (s : List Nat) : nb (setD s) = true := by
  show nbAll _ = true
  exact nb_all evD _ fun k _ => evD_nb k
/-- an event among events -/
theorem any_ev {e : Nat} (he : e < 10) : ∀ {s : List Nat}, (∀ x ∈ s, x < 10) → (s.map evD).any (fun z => PyData.eqv z (evD e)) = s.contains e
  | [], _ => rfl
  | x :: s, h => by
    rw [List.map_cons, List.any_cons, any_ev he fun y hy => h y (List.mem_cons_of_mem _ hy), List.contains_cons]
    congr 1
    have i := eqv_iff (evD x) (evD e) (evD_nb x) (evD_nb e)
    by_cases q : x = e
    · subst q
      rw [i.mpr rfl]
      simp
    · have h1 : PyData.eqv (evD x) (evD e) = false := by
        cases z : PyData.eqv (evD x) (evD e) with
        | false => rfl
        | true => exact absurd (evD_inj (h x (by simp)) he (i.mp z)) q
      rw [h1]
      simp [Ne.symm q]
/-- sets and papers as they stand in the heap -/
structure Evs (P : List Nat) : Prop where
  lt : ∀ e ∈ P, e < 10
structure SetsAt (K : PySem.W.Frag) (H : Hp) (a : Addr) (S : List (List Nat)) : Prop where
  ex : ∃ us, SqL K H a us ∧ TpAll H us (S.map setD)
  len : S.length ≤ 12
  sz : ∀ s ∈ S, s.length ≤ 5 ∧ ∀ e ∈ s, e < 10
theorem SetsAt.same {K : PySem.W.Frag} {H H' : Hp} {a : Addr} {S : List (List Nat)} (h : SetsAt K H a S) (s : Same H H') : SetsAt K H' a S := by
  obtain ⟨⟨us, h1, h2⟩, h3, h4⟩ := h
  exact ⟨⟨us, s.seq h1, h2.tk s.tk⟩, h3, h4⟩
theorem SetsAt.at {K : PySem.W.Frag} {H : Hp} {a : Addr} {S : List (List Nat)} (h : SetsAt K H a S) {k : Nat} (hk : k < S.length) : ∃ us x b vs, SqL K H a us ∧ us[k]? = some x ∧ x = .ref b ∧ H b = some (.tup vs) ∧ TpAll H vs ((S.getD k []).map evD) := by
  obtain ⟨us, h1, h2⟩ := h.ex
  obtain ⟨x, e1, t⟩ := tpAt (x := S.getD k []) h2 (by rw [List.getD_eq_getElem?_getD, List.getElem?_eq_getElem hk]; rfl)
  obtain ⟨b, vs, rfl, e2, t2⟩ := tpL t
  exact ⟨us, _, b, vs, h1, e1, rfl, e2, t2⟩
theorem getD_mem {S : List (List Nat)} {k : Nat} (hk : k < S.length) : S.getD k [] ∈ S := by
  rw [List.getD_eq_getElem?_getD, List.getElem?_eq_getElem hk]
  exact List.getElem_mem _
def PapAt (K : PySem.W.Frag) (H : Hp) (a : Addr) (P : List Nat) : Prop := ∃ us, SqL K H a us ∧ TpAll H us (P.map evD) ∧ ∀ e ∈ P, e < 10
theorem PapAt.same {K : PySem.W.Frag} {H H' : Hp} {a : Addr} {P : List Nat} (h : PapAt K H a P) (s : Same H H') : PapAt K H' a P := by
  obtain ⟨us, h1, h2, h3⟩ := h
  exact ⟨us, s.seq h1, h2.tk s.tk, h3⟩
/-! ### any -/
theorem bls_tp {H : Hp} : ∀ {xs : List Bool} {vs : List V}, TpAll H vs (xs.map PyData.bool) → vs = xs.map V.bl
  | [], _, h => by cases h; rfl
  | x :: xs, _, h => by
    cases h with
    | cons h1 h2 =>
      cases h1
      rw [bls_tp h2]
      rfl
theorem nats_map (c : List Nat) : (c.map nI).map V.int = c.map nV := by
  rw [List.map_map]
  rfl
theorem nats_tp {H : Hp} (c : List Nat) : TpAll H (c.map nV) (c.map fun k => PyData.int (nI k)) := by
  have h := tp_ints (H := H) (c.map nI)
  rw [List.map_map, List.map_map] at h
  exact h
theorem nat_at {c : List Nat} {i : Nat} {y : V} (e : (c.map nV)[i]? = some y) : ∃ k, c[i]? = some k ∧ y = nV k := by
  rw [List.getElem?_map] at e
  obtain ⟨k, e1, e2⟩ := Option.map_eq_some_iff.mp e
  exact ⟨k, e1, e2.symm⟩
theorem drop_at {α : Type} {c : List α} {i : Nat} {k : α} (e : c[i]? = some k) : c.drop i = k :: c.drop (i + 1) := by
  obtain ⟨h, e⟩ := List.getElem?_eq_some_iff.mp e
  rw [List.drop_eq_getElem_cons h, e]
theorem tp_rev {H : Hp} {us : List V} {xs : List Node} (t : TpAll H us (xs.map ndD)) : TpAll H us.reverse (xs.reverse.map ndD) := by
  rw [List.map_reverse]
  exact tpRev t
theorem nV_snoc (c : List Nat) (k : Nat) : c.map nV ++ [nV k] = (c ++ [k]).map nV := by rw [List.map_append] <;> rfl
theorem snoc_sz {c : List Nat} {k : Nat} (h : c.length ≤ 900) : ((c ++ [k]).map nV).length ≤ sizeLine := by
  rw [List.length_map, List.length_append, List.length_singleton, sizeLine_eq]
  omega
theorem tp_snoc_inv {H : Hp} {us : List V} {ds : List PyData} {d : PyData} (t : TpAll H us (ds ++ [d])) : ∃ vs v, us = vs ++ [v] ∧ TpAll H vs ds ∧ Tp H v d := by
  induction ds generalizing us with
  | nil => cases t with | cons h1 h2 => cases h2; exact ⟨[], _, rfl, .nil, h1⟩
  | cons x ds ih => cases t with
    | cons h1 h2 =>
      obtain ⟨vs, v, rfl, t1, t2⟩ := ih h2
      exact ⟨_ :: vs, v, rfl, .cons h1 t1, t2⟩
theorem e_notT {K : PySem.W.Frag} {te : TE} {σ : L2.St} {H : Hp} {Q : VK} (h : te σ H fun x H1 => KTr K x H1 fun k H2 => Q (.bl (!k)) H2) : tNotT K te σ H Q := h
theorem empty_tp {H : Hp} {us : List V} {ds : List PyData} (t : TpAll H us ds) : us.isEmpty = ds.isEmpty := by cases t <;> rfl
theorem smallM {n : Nat} (h : n ≤ 1000000) : n < sizeLine := by
  rw [sizeLine_eq]
  omega
theorem inV_nats (k : Nat) : ∀ c : List Nat, inV (nV k) (c.map nV) = c.contains k
  | [] => rfl
  | x :: c => by
    have ih := inV_nats k c
    unfold inV at ih ⊢
    rw [List.map_cons, List.any_cons, ih, List.contains_cons]
    congr 1
    show ((x : Int) == (k : Int)) = (k == x)
    by_cases q : x = k
    · subst q
      rw [beq_self_eq_true, beq_self_eq_true]
    · rw [beq_eq_false_iff_ne.mpr (fun h : (x : Int) = (k : Int) => q (by omega)), beq_eq_false_iff_ne.mpr (fun h : k = x => q h.symm)]
theorem flat_nats (c : List Nat) : (c.map nV).all flatV = true := by
  rw [List.all_map]
  exact List.all_eq_true.mpr fun _ _ => rfl
theorem tup_nats {H : Hp} {v : V} {c : List Nat} (h : Tp H v (nT c)) : ∃ a, v = .ref a ∧ H a = some (.tup (c.map nV)) := by
  obtain ⟨a, rfl, e⟩ := tpI h
  exact ⟨a, rfl, by rw [nats_map] at e; exact e⟩
theorem nats_tup {H : Hp} {a : Addr} {c : List Nat} (e : H a = some (.tup (c.map nV))) : Tp H (.ref a) (nT c) := iT_tp (by rw [nats_map]; exact e)
theorem tp_nd {H : Hp} {v : V} {x : Node} (h : Tp H v (ndD x)) : ∃ a c b, v = .ref a ∧ H a = some (.tup [.ref c, .ref b]) ∧ H c = some (.tup (x.1.map nV)) ∧ H b = some (.tup (x.2.map nV)) := by
  obtain ⟨a, v1, v2, rfl, e, h1, h2⟩ := tp2 h
  obtain ⟨c, rfl, e1⟩ := tup_nats h1
  obtain ⟨b, rfl, e2⟩ := tup_nats h2
  exact ⟨a, c, b, rfl, e, e1, e2⟩
theorem nd_tp {H : Hp} {a c b : Addr} {x : Node} (e : H a = some (.tup [.ref c, .ref b])) (e1 : H c = some (.tup (x.1.map nV))) (e2 : H b = some (.tup (x.2.map nV))) : Tp H (.ref a) (ndD x) :=
  .tup e (.cons (nats_tup e1) (.cons (nats_tup e2) .nil))
end K39
namespace K39
open PySem PySem.Spec PyProof.Rows L2 Wy WN WQ WS

section
variable {P : Program} {w : World} {K : PySem.W.Frag} {mg : Str → Option Value} {base : Heap}
theorem k_law_take (T : Tx K mg) : C8.Cal P w K mg base 1 "_law_take" spTake [] := by
  refine cal_of (N := n_law_take) T.d_law_take sc_law_take (fun _ _ F => F.bindsN fun _ _ _ _ _ _ us hl => match us, hl with | [_, _], _ => rfl) (fun vs H Q E h => ?_) (fun f cdv A outer s H vs Q E hr h => ?_)
  · obtain ⟨a, d, m, rfl, _⟩ := h
    rfl
  · obtain ⟨a, d, m, rfl, hh, hm, q⟩ := h
    have nd := hh.ne
    obtain ⟨n, ds, h1, h2, h3⟩ := hh
    refine ⟨_, (pss_cons (ps_asg (pe_ix (ix_seq : IxR _ (rIx K)) (pv 0) pe_int (fun _ _ => rfl)) (pg_name (i := 2) sc_law_take.nd rfl (Or.inl rfl))) (pss_cons (ps_asg (pe_op op_add3 (pv 2) pe_int) (pg_sub (pv 0) pe_int set_list)) (pss_cons (ps_asg (pe_ix (ix_seq : IxR _ (rIx K)) (pv 0) pe_int (fun _ _ => rfl)) (pg_name (i := 3) sc_law_take.nd rfl (Or.inl rfl))) (pss_cons (ps_if (pt_cmpR op_ge (pv 2) (pe_callB (call_len2 : CallR _ _ (rLn K)) (by rfl) T.z_len (by decide +kernel) (pa_cons (pv 3) pa_nil)) (nomark _)) (pss_one (ps_ret pe_int)) pss_nil) (pss_one (ps_ret (pe_op op_mod (pe_op op_fdiv (pe_callTy call_int2 (by rfl) T.z_int (by decide +kernel) (pa_cons (pe_ix (ix_seq : IxR _ (rIx K)) (pv 3) (pv 2) (fun _ _ => rfl)) pa_nil)) pe_int) (pv 1)))))))), ?_⟩
    walk_at "ss"
    refine o_ixL (lst_of h1) (atI_nat (j := 1) rfl) ?_
    walk_at "ss"
    refine st_L h1 (j := 1) rfl fun H2 c2 e2 => ?_
    have h3' := c2.at h3 nd
    walk_at "ss"
    refine o_ixL (lst_of e2) (atI_nat (j := 0) rfl) ?_
    walk_at "ss"
    refine b_lenL (lst_of h3') ?_
    walk_at "ss"
    refine ite2 (fun e => ?_) (fun e => ?_)
    · walk_at "ss"
      exact q 0 H2 (Int.le_refl 0) hm c2 ⟨n + 1, ds, e2, by omega, h3'⟩
    · have e := of_decide_eq_false (Bool.eq_false_iff.mpr e)
      rw [List.length_map] at e
      have g : (ds.map V.int)[n.toNat]? = some (.int ds[n.toNat]) := by
        rw [List.getElem?_map, List.getElem?_eq_getElem (by omega)]
        rfl
      walk_at "ss"
      refine o_ixL (lst_of h3') (atI_of (j := n.toNat) (by omega) g) ?_
      walk_at "ss"
      exact q _ H2 (Int.emod_nonneg _ (by omega)) (Int.emod_lt_of_pos _ hm) c2 ⟨n + 1, ds, e2, by omega, h3'⟩
def spHandDr (K : PySem.W.Frag) : Sp := fun vs H Q _ => ∃ (a : Addr) (ns : List Int) (m : Int), vs = [.ref a, .int m] ∧ SqL K H a (ns.map V.int) ∧ ns.length ≤ 63 ∧ 0 ≤ m ∧ m ≤ 10000 ∧ ∀ p H' ds, Same H H' → H p = none → H' p = some (.lst ((ds : List Int).map V.int)) → Q (.ref p) H'
theorem k_law_draws (T : Tx K mg) : C8.Cal P w K mg base 1 "_law_draws" (spHandDr K) [] := by
  refine cal_of (N := n_law_draws) T.d_law_draws sc_law_draws (fun _ _ F => F.bindsN fun _ _ _ _ _ _ us hl => match us, hl with | [_, _], _ => rfl) (fun vs H Q E h => ?_) (fun f cdv A outer s H vs Q E hr h => ?_)
  · obtain ⟨a, ns, m, rfl, _⟩ := h
    rfl
  · obtain ⟨a, ns, m, rfl, hS, hl, h0, hm, q⟩ := h
    refine ⟨_, (pss_cons (ps_setLc (i := 3) (own := [("cell", 2)]) (g := gName 2) (by rfl) sc_law_draws.nd rfl rfl (sw_true rfl rfl rfl (by decide +kernel)) (pi_list (pv 0) : PI _ _ _ (iList K _)) (blkOk_by (own := [("cell", 2)]) (N := n_law_draws) (sc := defScope s_law_draws) (by decide +kernel)) (fun _ _ _ _ _ => pg_name (i := 2) sc_law_draws.nd rfl (Or.inl rfl)) (fun _ _ _ _ _ => pts_nil) (fun _ _ _ _ _ => (pe_callB call_abs2 (by rfl) T.z_abs (by decide +kernel) (pa_cons (pe_callTy call_int2 (by rfl) T.z_int (by decide +kernel) (pa_cons (pv 2) pa_nil)) pa_nil)))) (pss_cons (ps_asg (pe_lst pa_nil) (pg_name (i := 4) sc_law_draws.nd rfl (Or.inl rfl))) (pss_cons (ps_for PassesOwn.never rfl (pi_range1 (by rfl) T.z_range (pa_cons (pv 1) pa_nil)) (pg_name (i := 5) sc_law_draws.nd rfl (Or.inl rfl)) (pss_cons (ps_asg (pv 5) (pg_name (i := 2) sc_law_draws.nd rfl (Or.inl rfl))) (C8.pss_cut (ps_if (pt_cmpR op_gt (pe_callB (call_len2 : CallR _ _ (rLn K)) (by rfl) T.z_len (by decide +kernel) (pa_cons (pv 0) pa_nil)) pe_int (nomark _)) (pss_cons (ps_asg (pe_op op_mod (pv 5) (pe_callB (call_len2 : CallR _ _ (rLn K)) (by rfl) T.z_len (by decide +kernel) (pa_cons (pv 0) pa_nil))) (pg_name (i := 6) sc_law_draws.nd rfl (Or.inl rfl))) (pss_cons (ps_asg (pe_callTy call_int2 (by rfl) T.z_int (by decide +kernel) (pa_cons (pe_ix (ix_seq : IxR _ (rIx K)) (pv 0) (pv 6) (fun _ _ => rfl)) pa_nil)) (pg_name (i := 2) sc_law_draws.nd rfl (Or.inl rfl))) (pss_one (ps_if (PW.pt (pw_and (pt_cmpR op_ge (pv 2) (pe_op op_pow pe_int pe_int) (nomark _)) (pw_and1 (pt_cmpR op_gt (pe_ix (ix_seq : IxR _ (rIx K)) (pv 3) (pv 6) (fun _ _ => rfl)) pe_int (nomark _))))) (pss_cons (ps_expr (pe_bm PySem.F.plainAttrs_list PySem.F.slot_list_append PySem.F.type_list_append mt_append (pv 4) (pa_cons (pe_op op_mod (pe_callTy call_int2 (by rfl) T.z_int (by decide +kernel) (pa_cons (pe_ix (ix_seq : IxR _ (rIx K)) (pv 3) (pv 6) (fun _ _ => rfl)) pa_nil)) pe_int) pa_nil) : PE _ _ (tBM K _ _ _ _))) (pss_cons (ps_asg (pe_op op_fdiv (pe_callTy call_int2 (by rfl) T.z_int (by decide +kernel) (pa_cons (pe_ix (ix_seq : IxR _ (rIx K)) (pv 3) (pv 6) (fun _ _ => rfl)) pa_nil)) pe_int) (pg_sub (pv 3) (pv 6) set_list)) (pss_one ps_continue))) pss_nil)))) pss_nil) (pss_cons (ps_asg (pe_op op_mod (pe_callTy call_int2 (by rfl) T.z_int (by decide +kernel) (pa_cons (pe_op op_add3 (pe_op op_add3 (pe_op op_mul2 (pv 2) pe_int) (pe_op op_mul2 (pv 5) pe_int)) pe_int) pa_nil)) pe_int) (pg_name (i := 7) sc_law_draws.nd rfl (Or.inl rfl))) (pss_cons (ps_asg (pe_op op_mod (pe_callTy call_int2 (by rfl) T.z_int (by decide +kernel) (pa_cons (pe_op op_add3 (pe_op op_fdiv (pe_op op_mul2 (pv 7) (pv 7)) pe_int) (pv 7)) pa_nil)) pe_int) (pg_name (i := 7) sc_law_draws.nd rfl (Or.inl rfl))) (pss_one (ps_expr (pe_bm PySem.F.plainAttrs_list PySem.F.slot_list_append PySem.F.type_list_append mt_append (pv 4) (pa_cons (pe_op op_mod (pe_callTy call_int2 (by rfl) T.z_int (by decide +kernel) (pa_cons (pe_op op_add3 (pe_op op_fdiv (pe_op op_mul2 (pv 7) (pv 7)) pe_int) (pe_op op_mul2 (pv 5) pe_int)) pa_nil)) pe_int) pa_nil) : PE _ _ (tBM K _ _ _ _))))))))) (pss_one (ps_ret (pv 4)))))), ?_⟩
    walk_at "ss"
    refine k_l hS ?_
    refine c_list (xs := ns.map V.int) (fun D i H1 => Same H H1 ∧ ∃ rs : List Int, rs.length = i ∧ H1 D = some (.lst (rs.map V.int))) (fun D H1 nD s1 e1 => ⟨s1, [], rfl, e1⟩) (fun D i H1 hi nD p => p.1.seq hS) (fun D i x H1 hx nD p => ?_) (fun D H1 nD p => ?_)
    · obtain ⟨s1, rs, lr, er⟩ := p
      have hi := (List.getElem?_eq_some_iff.mp hx).1
      rw [List.length_map] at hi
      obtain ⟨z, rfl⟩ : ∃ z, x = V.int z := by
        rw [List.getElem?_map] at hx
        cases e : ns[i]? with
        | none =>
          rw [e] at hx
          cases hx
        | some z =>
          rw [e] at hx
          exact ⟨z, (Option.some.inj hx).symm⟩
      walk_at "ss"
      refine ⟨rfl, ?_⟩
      walk_at "ss"
      refine iteT ?_
      walk_at "ss"
      exact c_out er (by rw [List.length_map, lr]; exact small1000 (by omega)) fun H2 c2 e2 => ⟨c2.same s1 nD, rs ++ [if z < 0 then -z else z], by simp [lr], by rw [List.map_append]; exact e2⟩
    · obtain ⟨s1, rs, lr, er⟩ := p
      rw [List.length_map] at lr
      walk_at "ss"
      refine n_obj (Nat.zero_le _) fun d H2 nd s2 e2 => ?_
      have nrd : D ≠ d := ne_of_none er nd
      have nd0 : H d = none := s1.free nd
      walk_at "ss"
      refine k_r1 (by omega) (by omega) ?_
      refine f_range (fun i σ H' => ∃ c k t x, ∃ ds rs : List Int, σ = [some (.ref a), some (.int m), c, some (.ref D), some (.ref d), k, t, x] ∧ Same H H' ∧ H' D = some (.lst (rs.map V.int)) ∧ rs.length = ns.length ∧ H' d = some (.lst (ds.map V.int)) ∧ ds.length ≤ i)
        ⟨_, _, _, _, [], rs, rfl, s1.trans s2, s2 _ _ er, lr, e2, Nat.le_refl _⟩ (fun i σ H3 hi p => ?_) (fun σ H3 p => ?_)
      · obtain ⟨c, k, t, x, ds, rs, rfl, s3, e3, l3, f3, g3⟩ := p
        have sz : (ds.map V.int).length < sizeLine := small1000' (by rw [List.length_map]; omega)
        walk_at "ss"
        refine s_cut (fun σ H' => ∃ (c : Int) (t x : Option V) (rs : List Int), σ = [some (.ref a), some (.int m), some (.int c), some (.ref D), some (.ref d), some (.int (0 + (i : Int))), t, x] ∧ Same H H' ∧ H' D = some (.lst (rs.map V.int)) ∧ rs.length = ns.length ∧ H' d = some (.lst (ds.map V.int))) ?_ (fun σ H4 p => ?_)
        · walk_at "ss"
          refine b_lenL (s3.seq hS) ?_
          walk_at "ss"
          refine ite2 (fun e => ?_) (fun e => ?_)
          · have e := of_decide_eq_true e
            rw [List.length_map] at e
            walk_at "ss"
            refine b_lenL (s3.seq hS) ?_
            rw [List.length_map]
            refine o_mod e ?_
            walk_at "ss"
            have b1 : 0 ≤ (0 + (i : Int)) % (ns.length : Int) := Int.emod_nonneg _ (by omega)
            have b2 : (0 + (i : Int)) % (ns.length : Int) < (ns.length : Int) := Int.emod_lt_of_pos _ e
            obtain ⟨j, hj⟩ : ∃ j : Nat, (0 + (i : Int)) % (ns.length : Int) = (j : Int) := ⟨_, (Int.toNat_of_nonneg b1).symm⟩
            rw [hj]
            have hj1 : j < ns.length := by omega
            have hj2 : j < rs.length := by omega
            have g1 : (ns.map V.int)[j]? = some (.int ns[j]) := by
              rw [List.getElem?_map, List.getElem?_eq_getElem hj1]
              rfl
            have g2 : (rs.map V.int)[j]? = some (.int rs[j]) := by
              rw [List.getElem?_map, List.getElem?_eq_getElem hj2]
              rfl
            refine o_ixL (s3.seq hS) (atI_nat g1) ?_
            walk_at "ss"
            refine ite2 (fun e => ?_) (fun e => ?_)
            · walk_at "ss"
              refine o_ixL (lst_of e3) (atI_nat g2) ?_
              walk_at "ss"
              refine ite2 (fun e => ?_) (fun e => ?_)
              · walk_at "ss"
                refine m_ty (lst_of f3) ?_
                walk_at "ss"
                refine o_ixL (lst_of e3) (atI_nat g2) ?_
                walk_at "ss"
                refine m_app f3 sz fun H4 c4 f4 => ?_
                have e4 := c4.at e3 nrd
                have s4 := c4.same s3 nd0
                walk_at "ss"
                refine o_ixL (lst_of e4) (atI_nat g2) ?_
                walk_at "ss"
                refine st_L e4 (j := j) (ixN_nat (by rw [List.length_map]; exact hj2)) fun H5 c5 e5 => ?_
                have f5 := c5.at f4 nrd.symm
                have s5 := c5.same s4 nD
                walk_at "ss"
                refine ⟨_, _, _, _, ds ++ [rs[j] % 1000003], rs.set j (rs[j] / 1000003), rfl, s5, ?_, by rw [List.length_set]; exact l3, ?_, by rw [List.length_append]; exact Nat.succ_le_succ g3⟩
                · rw [e5, List.map_set]
                · rw [f5, List.map_append]
                  rfl
              · walk_at "ss"
                exact ⟨_, _, _, rs, rfl, s3, e3, l3, f3⟩
            · walk_at "ss"
              refine iteF ?_
              walk_at "ss"
              exact ⟨_, _, _, rs, rfl, s3, e3, l3, f3⟩
          · walk_at "ss"
            exact ⟨_, _, _, rs, rfl, s3, e3, l3, f3⟩
        · obtain ⟨c, t, x, rs, rfl, s3, e3, l3, f3⟩ := p
          walk_at "ss"
          refine m_ty (lst_of f3) ?_
          walk_at "ss"
          refine m_app f3 sz fun H5 c5 f5 => ?_
          obtain ⟨ds', f6, l6⟩ := snoc_int f5
          exact ⟨_, _, _, _, ds', rs, rfl, c5.same s3 nd0, c5.at e3 nrd, l3, f6, by omega⟩
      · obtain ⟨c, k, t, x, ds, rs, rfl, s3, e3, l3, f3, g3⟩ := p
        walk_at "ss"
        exact q d H3 ds s3 nd0 f3
end
end K39
-- WIDE
namespace K39
open PySem PySem.Spec PyProof.Rows L2 Wy WN WQ WS WC WE WX WXD

section
variable {P : Program} {w : World} {K : PySem.W.Frag} {mg : Str → Option Value} {base : Heap}
def spOneIn (K : PySem.W.Frag) : Sp := fun vs H Q _ => ∃ (a b : Addr) (c h : List Nat), vs = [.ref a, .ref b] ∧ H a = some (.tup (c.map nV)) ∧ SqL K H b (h.map nV) ∧ c.length ≤ 100 ∧ ∀ H', Same H H' → Q (.bl (c.any h.contains)) H'
theorem k_one_is_in (T : Tx K mg) : C8.Cal P w K mg base 1 "_one_is_in" (spOneIn K) [] := by
  refine cal_of (N := n_one_is_in) T.d_one_is_in sc_one_is_in (fun _ _ F => F.bindsN fun _ _ _ _ _ _ us hl => match us, hl with | [_, _], _ => rfl) (fun vs H Q E h => ?_) (fun f cdv A outer s H vs Q E hr h => ?_)
  · obtain ⟨a, b, c, h, rfl, _⟩ := h
    rfl
  · obtain ⟨a, b, c, h, rfl, ha, hb, hz, q⟩ := h
    refine ⟨_, (pss_one (ps_ret (pe_callC WXD.cc_any (by rfl) T.z_any (by decide +kernel) (pa_cons (pe_lc (own := [("number", 2)]) (g := gName 2) (tt := tYes) (by rfl) sc_one_is_in.nd (pi_tup (pv 0) : PI _ _ _ (iTup K _)) (blkOk_by (own := [("number", 2)]) (N := n_one_is_in) (sc := defScope s_one_is_in) (by decide +kernel)) (fun _ _ _ _ _ => pg_name (i := 2) sc_one_is_in.nd rfl (Or.inl rfl)) (fun _ _ _ _ _ => pts_nil) (fun _ _ _ _ _ => (pe_cmpR (op_in2 : OpR _ _ (rIn2 K)) (pv 2) (pv 1) (by rfl)))) pa_nil)))), ?_⟩
    walk_at "xx"
    refine c_sel (p := fun _ => true) (F := fun k => PyData.int (nI k)) (G := fun k => PyData.bool (h.contains k)) (.inr ⟨rfl, tup_of ha⟩) (nats_tp c) (by omega) (fun x => rfl) (fun x u H1 N hx t s1 hN => ?_) (fun x u H1 N hx hp t s1 hN => ?_) (fun D H2 ys nD s2 e2 t => ?_)
    · walk_at "xx"
      exact hN H1 (Same.refl _)
    · cases t
      walk_at "xx"
      refine o_inL (s1.seq hb) rfl (flat_nats h) ?_
      walk_at "xx"
      rw [inV_nats]
      exact hN _ H1 (Same.refl _) (.bl _)
    · have e : c.filter (fun _ => true) = c := List.filter_eq_self.mpr fun _ _ => rfl
      rw [e] at t
      have t2 : TpAll H2 ys ((c.map h.contains).map PyData.bool) := by
        rw [List.map_map]
        exact t
      rw [bls_tp t2] at e2
      walk_at "xx"
      refine b_any (lst_of e2) ?_
      walk_at "xx"
      have e3 : (c.map h.contains).any id = c.any h.contains := by
        rw [List.any_map]
        rfl
      rw [e3]
      exact q H2 s2
def spBr (K : PySem.W.Frag) : Sp := fun vs H Q _ => ∃ (ca ba ha : Addr) (c b h : List Nat) (m : Nat), vs = [.ref ca, .ref ba, .ref ha, .int (m : Int)] ∧ H ca = some (.tup (c.map nV)) ∧ H ba = some (.tup (b.map nV)) ∧ SqL K H ha (h.map nV) ∧ c.length ≤ 100 ∧ b.length + h.length ≤ 200 ∧
  ∀ p us H', Same H H' → H p = none → H' p = some (.lst us) → TpAll H' us ((if c.length = m then [] else br h c b).reverse.map ndD) → Q (.ref p) H'
theorem k_branches (T : Tx K mg) : C8.Cal P w K mg base 1 "_branches" (spBr K) [] := by
  refine cal_of (N := n_branches) T.d_branches sc_branches (fun _ _ F => F.bindsN fun _ _ _ _ _ _ us hl => match us, hl with | [_, _, _, _], _ => rfl) (fun vs H Q E h => ?_) (fun f cdv A outer s H vs Q E hr h => ?_)
  · obtain ⟨_, _, _, _, _, _, _, rfl, _⟩ := h
    rfl
  · obtain ⟨ca, ba, ha, c, b, h, m, rfl, hc, hb, hh, hz, hz2, q⟩ := h
    refine ⟨_, (pss_cons (ps_if (pt_cmpR (op_eq2 hr.units : OpR _ _ (rEq2 K)) (pe_callB (call_len2 : CallR _ _ (rLn K)) (by rfl) T.z_len (by decide +kernel) (pa_cons (pv 0) pa_nil)) (pv 3) (nomark _)) (pss_one (ps_ret (pe_lst pa_nil))) pss_nil) (pss_cons (ps_asg (pe_lst pa_nil) (pg_name (i := 4) sc_branches.nd rfl (Or.inl rfl))) (pss_cons (ps_for PassesOwn.never rfl (pi_list (pv 2) : PI _ _ _ (iList K _)) (pg_name (i := 5) sc_branches.nd rfl (Or.inl rfl)) (pss_one (ps_if (pt_cmpR (op_ni2 : OpR _ _ (rNi2 K)) (pv 5) (pv 1) (by rfl)) (pss_cons (ps_expr (pe_bm PySem.F.plainAttrs_list PySem.F.slot_list_append PySem.F.type_list_append mt_append (pv 4) (pa_cons (pe_tup (pa_cons (pe_tup (pa_star (pv 0) (pa_cons (pv 5) pa_nil) : PA _ _ (tStar K _ _))) (pa_cons (pv 1) pa_nil))) pa_nil) : PE _ _ (tBM K _ _ _ _))) (pss_one (ps_asg (pe_tup (pa_star (pv 1) (pa_cons (pv 5) pa_nil) : PA _ _ (tStar K _ _))) (pg_name (i := 1) sc_branches.nd rfl (Or.inl rfl))))) pss_nil))) (pss_one (ps_ret (pe_revL (pv 4) : PE _ _ (tRevL K _))))))), ?_⟩
    walk_at "xx"
    refine b_lenT (tup_of hc) ?_
    walk_at "xx"
    rw [List.length_map]
    refine iteI (fun e => ?_) (fun e => ?_)
    · have e : c.length = m := by omega
      walk_at "xx"
      rw [if_pos e] at q
      refine q _ _ _ (by walk_at "sa") (by walk_at "fr") (by walk_at "hp") .nil
    · have e : ¬ c.length = m := by omega
      rw [if_neg e] at q
      walk_at "xx"
      rename_i D H1 nD s1 e1
      refine k_l (s1.seq hh) ?_
      refine f_list (xs := h.map nV) (fun i σ H' => ∃ (ba' : Addr) (x : Option V) (us : List V) (acc : List Node) (b' : List Nat), σ = [some (.ref ca), some (.ref ba'), some (.ref ha), some (.int m), some (.ref D), x] ∧ Same H H' ∧ H' ba' = some (.tup (b'.map nV)) ∧ H' D = some (.lst us) ∧ TpAll H' us (acc.map ndD) ∧ acc ++ br (h.drop i) c b' = br h c b ∧ b'.length ≤ b.length + i ∧ acc.length ≤ i)
        ⟨ba, _, [], [], b, rfl, s1, s1 _ _ hb, e1, .nil, rfl, Nat.le_refl _, Nat.le_refl _⟩ (fun i σ H' hi p => ?_) (fun i y σ H' hx p => ?_) (fun σ H' p => ?_)
      · obtain ⟨ba', x, us, acc, b', rfl, s2, hb2, e2, t2, ea, lb, la⟩ := p
        exact s2.seq hh
      · obtain ⟨ba', x, us, acc, b', rfl, s2, hb2, e2, t2, ea, lb, la⟩ := p
        obtain ⟨k, hk, rfl⟩ := nat_at hx
        have hi := (List.getElem?_eq_some_iff.mp hk).1
        rw [drop_at hk] at ea
        have nD2 : ca ≠ D := ne_of_none hc nD
        walk_at "xx"
        refine o_niT (tup_of hb2) rfl (flat_nats b') ?_
        walk_at "xx"
        rw [inV_nats]
        have ek : b'.contains k = decide (k ∈ b') := by simp
        rw [ek]
        refine iteND (fun e => ?_) (fun e => ?_)
        · walk_at "xx"
          refine m_ty (lst_of e2) ?_
          walk_at "xx"
          refine k_st (.inr (seqT s2 (tup_of hc))) ?_
          walk_at "xx"
          rw [nV_snoc]
          refine n_obj (snoc_sz (by omega)) fun p1 H3 n1 s3 e3 => ?_
          walk_at "xx"
          rename_i p2 H4 n2 s4 e4
          have hD4 : H4 D = some (.lst us) := s4 _ _ (s3 _ _ e2)
          refine m_app hD4 ?_ fun H5 c5 e5 => ?_
          · have := t2.length
            rw [List.length_map] at this
            exact small1000' (by omega)
          · have ne1 : p1 ≠ D := Ne.symm (ne_of_none e2 n1)
            have ne2 : p2 ≠ D := Ne.symm (ne_of_none (s3 _ _ e2) n2)
            have neb : ba' ≠ D := ne_of hb2 e2 (fun z => nomatch z)
            walk_at "xx"
            refine k_st (.inr (tup_of (c5.at (s4 _ _ (s3 _ _ hb2)) neb))) ?_
            walk_at "xx"
            rw [nV_snoc]
            refine n_obj (snoc_sz (by omega)) fun p3 H6 n3 s6 e6 => ?_
            walk_at "xx"
            have tk5 : TK H' H6 := (s3.trans s4).tk.trans ((c5.tk hD4).trans s6.tk)
            rw [br_out e] at ea
            refine ⟨p3, _, us ++ [.ref p2], acc ++ [(c ++ [k], b')], b' ++ [k], rfl, ((c5.same (s2.trans (s3.trans s4)) nD).trans s6), e6, s6 _ _ e5, ?_, ?_, ?_, ?_⟩
            · rw [List.map_append]
              refine tpSnoc (t2.tk tk5) ?_
              exact nd_tp (s6 _ _ (c5.at e4 ne2)) (s6 _ _ (c5.at (s4 _ _ e3) ne1)) (s6 _ _ (c5.at (s4 _ _ (s3 _ _ hb2)) neb))
            · rw [List.append_assoc]
              exact ea
            · simp
              omega
            · simp
              omega
        · walk_at "xx"
          rw [br_in e] at ea
          exact ⟨ba', _, us, acc, b', rfl, s2, hb2, e2, t2, ea, by omega, by omega⟩
      · obtain ⟨ba', x, us, acc, b', rfl, s2, hb2, e2, t2, ea, lb, la⟩ := p
        walk_at "xx"
        rw [List.length_map, List.drop_of_length_le (Nat.le_refl _)] at ea
        have ea : acc = br h c b := by simpa [br] using ea
        subst ea
        rename_i p H3 np s3 e3
        exact q _ _ H3 (s2.trans s3) (s2.free np) e3 (tp_rev (t2.tk s3.tk))
end
end K39
-- WIDE
-- DT _holders_of holders
namespace K39
open PySem PySem.Spec PyProof.Rows L2 Wy WN WQ WS WC WE WX WXD
open W6 (uu)

/-- a dict that holds, for each event, the list of its holders -/
structure HolAt (H0 H : Hp) (a : Addr) (g : Nat → List Nat) (n : Nat) (kvs : List (List Key × V)) (Ad : Nat → Addr) : Prop where
  at_ : H a = some (.dT kvs)
  len : kvs.length ≤ n
  no : ∀ e < 10, g e = [] → valV kvs (evK e) = none
  yes : ∀ e < 10, g e ≠ [] → valV kvs (evK e) = some (.ref (Ad e)) ∧ H (Ad e) = some (.lst ((g e).map nV)) ∧ H0 (Ad e) = none
  ne : ∀ e e', e < 10 → e' < 10 → g e ≠ [] → g e' ≠ [] → e ≠ e' → Ad e ≠ Ad e'
  fr : H0 a = none
  sz : ∀ e, (g e).length ≤ n
theorem addE_sz {k e n : Nat} {g : Nat → List Nat} (h : ∀ x, (g x).length ≤ n) : ∀ x, (addE k g e x).length ≤ n + 1 := by
  intro x
  have := h x
  unfold addE
  split
  · rw [List.length_append, List.length_singleton]
    omega
  · omega
theorem HolAt.mono {H0 H H' : Hp} {a : Addr} {g : Nat → List Nat} {n : Nat} {kvs : List (List Key × V)} {Ad : Nat → Addr} (h : HolAt H0 H a g n kvs Ad) (s : Same H H') : HolAt H0 H' a g n kvs Ad :=
  ⟨s _ _ h.at_, h.len, h.no, fun e he q => ⟨(h.yes e he q).1, s _ _ (h.yes e he q).2.1, (h.yes e he q).2.2⟩, h.ne, h.fr, h.sz⟩
/-- the event stands there -/
theorem HolAt.old {H0 H H' : Hp} {a : Addr} {g : Nat → List Nat} {n k e : Nat} {kvs : List (List Key × V)} {Ad : Nat → Addr} (h : HolAt H0 H a g n kvs Ad) (he : e < 10) (hg : g e ≠ []) (c : Chg (Ad e) H H') (e1 : H' (Ad e) = some (.lst ((g e).map nV ++ [nV k]))) : HolAt H0 H' a (addE k g e) (n + 1) kvs Ad := by
  have y := h.yes e he hg
  have nea : a ≠ Ad e := ne_of h.at_ y.2.1 (fun z => nomatch z)
  refine ⟨c.at h.at_ nea, Nat.le_succ_of_le h.len, fun x hx q => ?_, fun x hx q => ?_, fun x x' hx hx' q q' ne => ?_, h.fr, addE_sz h.sz⟩
  · unfold addE at q
    split at q
    · simp at q
    · exact h.no x hx q
  · unfold addE at q ⊢
    by_cases z : x = e
    · subst z
      rw [if_pos rfl, ← nV_snoc]
      exact ⟨y.1, e1, y.2.2⟩
    · rw [if_neg z] at q ⊢
      have yx := h.yes x hx q
      exact ⟨yx.1, c.at yx.2.1 (h.ne x e hx he q hg z), yx.2.2⟩
  · have f : ∀ x, addE k g e x ≠ [] → g x ≠ [] := fun x q => by
      unfold addE at q
      by_cases z : x = e
      · exact z ▸ hg
      · rwa [if_neg z] at q
    exact h.ne x x' hx hx' (f x q) (f x' q') ne
/-- it stands there now -/
theorem HolAt.new {H0 H H' : Hp} {a p : Addr} {g : Nat → List Nat} {n k e : Nat} {kvs : List (List Key × V)} {Ad : Nat → Addr} (h : HolAt H0 H a g n kvs Ad) (he : e < 10) (hg : g e = []) (hp : H p = none) (hp0 : H0 p = none)
    (k1 : ∀ b o, H b = some o → b ≠ a → H' b = some o) (e1 : H' a = some (.dT (putK kvs (evK e) (.ref p)))) (e2 : H' p = some (.lst [nV k])) : HolAt H0 H' a (addE k g e) (n + 1) (putK kvs (evK e) (.ref p)) (fun x => if x = e then p else Ad x) := by
  refine ⟨e1, Nat.le_trans (length_putK kvs _ _) (Nat.succ_le_succ h.len), fun x hx q => ?_, fun x hx q => ?_, fun x x' hx hx' q q' ne => ?_, h.fr, addE_sz h.sz⟩
  · unfold addE at q
    by_cases z : x = e
    · rw [if_pos z] at q
      simp at q
    · rw [if_neg z] at q
      rw [valV_put, if_neg (fun w => z (evK_inj hx he w))]
      exact h.no x hx q
  · unfold addE at q ⊢
    by_cases z : x = e
    · subst z
      rw [if_pos rfl, valV_put, if_pos rfl, hg, if_pos rfl]
      exact ⟨rfl, e2, hp0⟩
    · rw [if_neg z] at q ⊢
      have yx := h.yes x hx q
      rw [valV_put, if_neg (fun w => z (evK_inj hx he w)), if_neg z]
      exact ⟨yx.1, k1 _ _ yx.2.1 (fun w => by rw [w, h.at_] at yx; exact nomatch yx.2.1), yx.2.2⟩
  · have f : ∀ x, x ≠ e → addE k g e x ≠ [] → g x ≠ [] := fun x z q => by
      unfold addE at q
      rwa [if_neg z] at q
    by_cases z : x = e
    · have z' : x' ≠ e := fun w => ne (z.trans w.symm)
      rw [if_pos z, if_neg z']
      have yx := h.yes x' hx' (f x' z' q')
      exact Ne.symm (ne_of_none yx.2.1 hp)
    · by_cases z' : x' = e
      · rw [if_neg z, if_pos z']
        have yx := h.yes x hx (f x z q)
        exact ne_of_none yx.2.1 hp
      · rw [if_neg z, if_neg z']
        exact h.ne x x' hx hx' (f x z q) (f x' z' q') ne
section
variable {P : Program} {w : World} {K : PySem.W.Frag} {mg : Str → Option Value} {base : Heap}
def spHold (K : PySem.W.Frag) : Sp := fun vs H Q _ => ∃ (a : Addr) (S : List (List Nat)), vs = [.ref a] ∧ SetsAt K H a S ∧
  ∀ p H' kvs Ad, Same H H' → HolAt H H' p (holR 0 S) 100 kvs Ad → Q (.ref p) H'
theorem k_holders_of (T : Tx K mg) : C8.Cal P w K mg base 1 "_holders_of" (spHold K) [] := by
  refine cal_of (N := n_holders_of) T.d_holders_of sc_holders_of (fun _ _ F => F.bindsN fun _ _ _ _ _ _ us hl => match us, hl with | [_], _ => rfl) (fun vs H Q E h => ?_) (fun f cdv A outer s H vs Q E hr h => ?_)
  · obtain ⟨a, S, rfl, _⟩ := h
    rfl
  · obtain ⟨a, S, rfl, hS, q⟩ := h
    refine ⟨_, (pss_cons (ps_asg pe_dnewT (pg_name (i := 1) sc_holders_of.nd rfl (Or.inl rfl))) (pss_cons (ps_for PassesOwn.never rfl (pi_enum (by rfl) T.z_enumerate (pa_cons (pv 0) pa_nil)) (pg_tup (by rfl) (pgs_cons (pg_name (i := 2) sc_holders_of.nd rfl (Or.inl rfl)) (pgs_cons (pg_name (i := 3) sc_holders_of.nd rfl (Or.inl rfl)) pgs_nil)) : PG _ _ (gTup K _ _)) (pss_one (ps_for PassesOwn.never rfl (pi_tup (pv 3) : PI _ _ _ (iTup K _)) (pg_name (i := 4) sc_holders_of.nd rfl (Or.inl rfl)) (pss_one (ps_expr (pe_bm PySem.F.plainAttrs_list PySem.F.slot_list_append PySem.F.type_list_append mt_append (WXD.pe_dsetdT (uu hr.units) (pv 1) (pv 4) (pe_lst pa_nil) ⟨by rfl, by rfl, by rfl, by rfl⟩) (pa_cons (pv 2) pa_nil) : PE _ _ (tBM K _ _ _ _))))))) (pss_one (ps_ret (pv 1))))), ?_⟩
    walk_at "xx"
    refine e_dnewT fun d H1 nd s1 e1 => ?_
    walk_at "xx"
    obtain ⟨us, hu, tu⟩ := hS.ex
    have lu : us.length = S.length := by have := tu.length; rwa [List.length_map] at this
    refine ⟨a, us, rfl, s1.seq hu, ?_⟩
    refine WO.f_it (walk_enum (xs := us)) (fun i σ H' => ∃ (x1 x2 x3 : Option V) (g : Nat → List Nat) (kvs : List (List Key × V)) (Ad : Nat → Addr), σ = [some (.ref a), some (.ref d), x1, x2, x3] ∧ Same H H' ∧ HolAt H H' d g (5 * i) kvs Ad ∧ fillS g i (S.drop i) = fillS (fun _ => []) 0 S)
      ⟨_, _, _, fun _ => [], [], fun _ => 0, rfl, s1, ⟨e1, Nat.zero_le _, fun _ _ _ => rfl, fun _ _ q => absurd rfl q, fun _ _ _ _ q => absurd rfl q, nd, fun _ => Nat.zero_le _⟩, rfl⟩ (fun i σ H' hi p => ?_) (fun i x σ H' H'' hi p y => ?_) (fun σ H' p => ?_)
    · obtain ⟨_, _, _, g, kvs, Ad, rfl, s2, hA, eg⟩ := p
      exact s2.seq hu
    · obtain ⟨_, _, _, g, kvs, Ad, rfl, s2, hA, eg⟩ := p
      obtain ⟨Tp_, x1, x2, rfl, y1, y2, y3, y4⟩ := y
      have s3 : Same H' H'' := by rw [y2]; exact same_new y1
      have e3 : H'' Tp_ = some (.tup [x1, x2]) := by rw [y2]; exact upd_same
      have y3 : x1 = .int (i : Int) := (Option.some.inj y3).symm
      subst y3
      obtain ⟨s, hs, ts⟩ := tpGet tu y4
      obtain ⟨b, vs, rfl, eb, tv⟩ := tpL ts
      have hb := (hS.sz s (List.mem_of_getElem? hs)).1
      have hb2 := (hS.sz s (List.mem_of_getElem? hs)).2
      have lv : vs.length = s.length := by have := tv.length; rwa [List.length_map] at this
      rw [drop_at hs] at eg
      walk_at "xx"
      refine f_tup (xs := vs) (fun j σ H4 => ∃ (x3 : Option V) (g' : Nat → List Nat) (kvs : List (List Key × V)) (Ad : Nat → Addr), σ = [some (.ref a), some (.ref d), some (.int i), some (.ref b), x3] ∧ Same H H4 ∧ HolAt H H4 d g' (5 * i + j) kvs Ad ∧ evFold g' i (s.drop j) = evFold g i s)
        ⟨_, g, kvs, Ad, rfl, s2.trans s3, hA.mono s3, rfl⟩ (fun j σ H4 hj p => ?_) (fun j x σ H4 hx p => ?_) (fun σ H4 p => ?_)
      · obtain ⟨_, g', kvs', Ad', rfl, s4, hB, ef⟩ := p
        exact tup_of (s4 _ _ eb)
      · obtain ⟨_, g', kvs', Ad', rfl, s4, hB, ef⟩ := p
        obtain ⟨e, he, te⟩ := tpGet tv hx
        obtain ⟨eb2, rfl, ee⟩ := tp_ev te
        have he10 := hb2 e (List.mem_of_getElem? he)
        rw [drop_at he] at ef
        have ef : evFold (addE i g' e) i (s.drop (j + 1)) = evFold g i s := ef
        have hj := (List.getElem?_eq_some_iff.mp hx).1
        walk_at "xx"
        refine e_setd ?_
        walk_at "xx"
        refine ⟨d, kvs', rfl, hB.at_, ?_⟩
        walk_at "xx"
        rename_i p H5 np s5 e5
        refine ⟨kvs', evK e, eb2, s5 _ _ hB.at_, rfl, s5 _ _ (s4 _ _ ee), ?_, fun v hv => ?_, fun hv => ?_⟩
        · have := hB.len
          have := hS.len
          exact small1000' (by omega)
        · by_cases hg : g' e = []
          · rw [hB.no e he10 hg] at hv
            cases hv
          · have y := hB.yes e he10 hg
            rw [y.1] at hv
            cases hv
            have ya := s5 _ _ y.2.1
            refine m_ty (lst_of ya) ?_
            walk_at "xx"
            refine m_app ya ?_ fun H6 c6 e6 => ?_
            · have := hB.sz e
              have := hS.len
              exact small1000' (by rw [List.length_map]; omega)
            walk_at "xx"
            exact ⟨_, _, kvs', Ad', rfl, c6.same (s4.trans s5) y.2.2, (hB.mono s5).old he10 hg c6 e6, ef⟩
        · have hg : g' e = [] := by
            by_cases hg : g' e = []
            · exact hg
            · rw [(hB.yes e he10 hg).1] at hv
              cases hv
          have hd5 := s5 _ _ hB.at_
          have npd : p ≠ d := ne_of e5 hd5 (fun z => nomatch z)
          have ep : upd H5 d (.dT (putK kvs' (evK e) (.ref p))) p = some (.lst []) := by rw [upd_ne npd]; exact e5
          refine m_ty (lst_of ep) ?_
          walk_at "xx"
          refine m_app ep (small1000' (Nat.zero_le _)) fun H6 c6 e6 => ?_
          walk_at "xx"
          have k1 : ∀ b o, H5 b = some o → b ≠ d → b ≠ p → H6 b = some o := fun b o h1 h2 h3 => c6.at (by rw [upd_ne h2]; exact h1) h3
          have nd4 : H4 p = none := np
          refine ⟨_, _, _, _, rfl, fun b o h1 => ?_, hB.new he10 hg np (s4.free np) (fun b o h1 h2 => k1 b o (s5 _ _ h1) h2 (ne_of_none h1 np)) (c6.at upd_same npd.symm) e6, ef⟩
          exact k1 b o (s5 _ _ (s4 _ _ h1)) (ne_of_none h1 hB.fr) (ne_of_none (s4 _ _ h1) np)
      · obtain ⟨x3, g', kvs', Ad', rfl, s4, hB, ef⟩ := p
        rw [lv, List.drop_of_length_le (Nat.le_refl _)] at ef
        have ef : g' = evFold g i s := ef
        subst ef
        exact ⟨_, _, _, _, kvs', Ad', rfl, s4, ⟨hB.at_, by have := hB.len; omega, hB.no, hB.yes, hB.ne, hB.fr, fun e => by have := hB.sz e; omega⟩, eg⟩
    · obtain ⟨_, _, _, g, kvs, Ad, rfl, s2, hA, eg⟩ := p
      walk_at "xx"
      rw [lu] at hA eg
      rw [List.drop_of_length_le (Nat.le_refl _)] at eg
      have eg2 : g = holR 0 S := by
        rw [show g = fillS g S.length [] from rfl, eg]
        exact funext fun x => fill0
      rw [eg2] at hA
      exact q d H' kvs Ad s2 ⟨hA.at_, by have := hS.len; have := hA.len; omega, hA.no, hA.yes, hA.ne, hA.fr, fun e => by have := hS.len; have := hA.sz e; omega⟩
end
end K39
-- WIDE
-- DT check_shortest holders
namespace K39
open PySem PySem.Spec PyProof.Rows L2 Wy WN WQ WS WC WE WX WXD
open W6 (uu)

/-- a stack of nodes, its top at the list's end -/
structure StkAt (S : List (List Nat)) (m : Nat) (H : Hp) (D : Addr) (st : List Node) (n : Nat) : Prop where
  ex : ∃ ws, H D = some (.lst ws) ∧ TpAll H ws (st.reverse.map ndD)
  good : ∀ nd ∈ st, Good S m nd
  len : st.length ≤ n
section
variable {P : Program} {w : World} {K : PySem.W.Frag} {mg : Str → Option Value} {base : Heap}
def spCS (K : PySem.W.Frag) : Sp := fun vs H Q _ => ∃ (a pa : Addr) (S : List (List Nat)) (m : Nat) (ps : List Nat), vs = [.ref a, .int (m : Int), .ref pa] ∧ SetsAt K H a S ∧ PapAt K H pa ps ∧ ps.length ≤ 3000 ∧
  ∀ H', Same H H' → Q (.bl (acc S m ps [([], [])])) H'
theorem k_check_shortest (T : Tx K mg) : C8.Cal P w K mg base 2 "check_shortest" (spCS K) [] := by
  refine cal_of (N := n_check_shortest) T.d_check_shortest sc_check_shortest (fun _ _ F => F.bindsN fun _ _ _ _ _ _ us hl => match us, hl with | [_, _, _], _ => rfl) (fun vs H Q E h => ?_) (fun f cdv A outer s H vs Q E hr h => ?_)
  · obtain ⟨_, _, _, _, _, rfl, _⟩ := h
    rfl
  · obtain ⟨a, pa, S, m, ps, rfl, hS, hP, lp, q⟩ := h
    refine ⟨_, (pss_cons (ps_asg (C8.pe_c (k_holders_of T) hr (by first | decide | omega) (by rfl) (pa_cons (pv 0) pa_nil)) (pg_name (i := 3) sc_check_shortest.nd rfl (Or.inl rfl))) (pss_cons (ps_asg (pe_lst (pa_cons (pe_tup (pa_cons (pe_tup pa_nil) (pa_cons (pe_tup pa_nil) pa_nil))) pa_nil)) (pg_name (i := 4) sc_check_shortest.nd rfl (Or.inl rfl))) (pss_cons (ps_for PassesOwn.never rfl (pi_list (pv 2) : PI _ _ _ (iList K _)) (pg_name (i := 5) sc_check_shortest.nd rfl (Or.inl rfl)) (pss_cons (ps_if (PW.pt (pw_or (pt_not (pt_tr (pv 4) : PT _ _ (tTr K _))) (pw_or1 (pt_cmp (pc_dnotin (uu hr.units) (pv 5) (pv 3)) (by rfl))))) (pss_one (ps_ret pe_bl)) pss_nil) (pss_cons (ps_asg (pe_bm0 PySem.F.plainAttrs_list PySem.F.slot_list_pop PySem.F.type_list_pop mt_pop (pv 4) : PE _ _ (tBM0 K _ _ _)) (pg_tup (by rfl) (pgs_cons (pg_name (i := 6) sc_check_shortest.nd rfl (Or.inl rfl)) (pgs_cons (pg_name (i := 7) sc_check_shortest.nd rfl (Or.inl rfl)) pgs_nil)) : PG _ _ (gTup K _ _))) (pss_cons (ps_if (pt_tr (C8.pe_c (k_one_is_in T) hr (by first | decide | omega) (by rfl) (pa_cons (pv 6) (pa_cons (pe_dget (uu hr.units) (pv 3) (pv 5) (fun _ _ => rfl)) pa_nil))) : PT _ _ (tTr K _)) (pss_one (ps_ret pe_bl)) pss_nil) (pss_one (ps_expr (pe_bm PySem.F.plainAttrs_list PySem.F.slot_list_extend PySem.F.type_list_extend mt_extend (pv 4) (pa_cons (C8.pe_c (k_branches T) hr (by first | decide | omega) (by rfl) (pa_cons (pv 6) (pa_cons (pv 7) (pa_cons (pe_dget (uu hr.units) (pv 3) (pv 5) (fun _ _ => rfl)) (pa_cons (pv 1) pa_nil))))) pa_nil) : PE _ _ (tBM K _ _ _ _)))))))) (pss_one (ps_ret (pe_notT (pv 4) : PE _ _ (tNotT K _))))))), ?_⟩
    walk_at "xx"
    refine ⟨a, S, rfl, hS, fun d H1 kvs Ad s1 hA => ?_⟩
    walk_at "xx"
    obtain ⟨us, hu, tu, hlt⟩ := hP
    have lu : us.length = ps.length := by have := tu.length; rwa [List.length_map] at this
    rename_i t1 Ha na sa ea t2 Hb nb_ sb eb t3 Hc nc sc ec D H2 nD sd eD
    have s12 : Same H1 H2 := ((sa.trans sb).trans sc).trans sd
    have nD1 : H1 D = none := ((sa.trans sb).trans sc).free nD
    refine k_l ((s1.trans s12).seq hu) ?_
    refine f_list (xs := us) (fun i σ H' => ∃ (x1 x2 x3 : Option V) (st : List Node), σ = [some (.ref a), some (.int m), some (.ref pa), some (.ref d), some (.ref D), x1, x2, x3] ∧ Same H1 H' ∧ StkAt S m H' D st (1 + 60 * i) ∧ acc S m (ps.drop i) st = acc S m ps [([], [])])
      ⟨_, _, _, [([], [])], rfl, s12, ⟨⟨_, eD, .cons (nd_tp (sd _ _ ec) (sd _ _ (sc _ _ (sb _ _ ea))) (sd _ _ (sc _ _ eb))) .nil⟩, good_start, Nat.le_refl _⟩, rfl⟩ (fun i σ H' hi p => ?_) (fun i x σ H' hx p => ?_) (fun σ H' p => ?_)
    · obtain ⟨_, _, _, st, rfl, s3, hst, ea⟩ := p
      exact (s1.trans s3).seq hu
    · obtain ⟨_, _, _, st, rfl, s3, hst, ea⟩ := p
      obtain ⟨⟨ws, eD2, tw⟩, hg, ls⟩ := hst
      obtain ⟨e, he, te⟩ := tpGet tu hx
      have he10 := hlt e (List.mem_of_getElem? he)
      have hi := (List.getElem?_eq_some_iff.mp hx).1
      obtain ⟨eb2, rfl, ee⟩ := tp_ev te
      rw [drop_at he] at ea
      have hA3 := hA.mono s3
      have ee3 := s3 _ _ (s1 _ _ ee)
      walk_at "xx"
      refine k_trL (lst_of eD2) ?_
      rw [empty_tp tw]
      cases st with
      | nil =>
        walk_at "xx"
        have e2 : acc S m ps [([], [])] = false := ea.symm
        rw [e2] at q
        exact q H' (s1.trans s3)
      | cons nd st =>
        obtain ⟨c, b⟩ := nd
        have g := hg (c, b) List.mem_cons_self
        have lc : c.length ≤ S.length := small_nodup g.un g.lt
        have lb : b.length ≤ S.length := small_nodup g.bun g.blt
        have hl := hS.len
        have e0 : (!(((((c, b) :: st).reverse).map ndD).isEmpty)) = true := by simp
        rw [e0]
        rw [List.reverse_cons, List.map_append] at tw
        obtain ⟨ws', x, rfl, tw1, tx⟩ := tp_snoc_inv tw
        obtain ⟨xa, xc, xb, rfl, ex1, ex2, ex3⟩ := tp_nd tx
        have lw : ws'.length ≤ 60 * i := by
          have := tw1.length
          rw [List.length_map, List.length_reverse] at this
          simp at ls
          omega
        walk_at "xx"
        refine e_dnotin ?_
        walk_at "xx"
        refine ⟨d, _, rfl, DGet.t hA3.at_ ee3, ?_⟩
        by_cases hh : holR 0 S e = []
        · rw [hA3.no e he10 hh]
          walk_at "xx"
          have e2 : acc S m ps [([], [])] = false := by
            rw [← ea]
            simp [acc, nil_holS.mp hh]
          rw [e2] at q
          exact q H' (s1.trans s3)
        · have hy := hA3.yes e he10 hh
          rw [hy.1]
          walk_at "xx"
          refine iteFF rfl ?_
          walk_at "xx"
          refine m_bm0 ?_
          walk_at "xx"
          refine m_ty (lst_of eD2) ?_
          refine m_pop eD2 fun H4 c4 e4 => ?_
          have nx1 : xa ≠ D := ne_of ex1 eD2 (fun z => nomatch z)
          have s4 : Same H1 H4 := c4.same s3 nD1
          have hA4 := hA.mono s4
          have ee4 := s4 _ _ (s1 _ _ ee)
          have ex4 := c4.at ex1 nx1
          have exc := c4.at ex2 (ne_of ex2 eD2 (fun z => nomatch z))
          have exb := c4.at ex3 (ne_of ex3 eD2 (fun z => nomatch z))
          have hy4 := hA4.yes e he10 hh
          walk_at "xx"
          refine kd_t hA4.at_ ee4 hy4.1 ?_
          walk_at "xx"
          refine ⟨xc, Ad e, c, holR 0 S e, rfl, exc, lst_of hy4.2.1, by omega, fun H5 s5 => ?_⟩
          rw [hit_holS g.lt]
          walk_at "xx"
          refine iteB (fun hi1 => ?_) (fun hi1 => ?_)
          · walk_at "xx"
            have e2 : acc S m ps [([], [])] = false := by
              rw [← ea]
              have : hol S e ≠ [] := fun z => hh (nil_holS.mpr z)
              simp [acc, this, hi1]
            rw [e2] at q
            exact q _ (s1.trans (s4.trans s5))
          · have s45 := s4.trans s5
            have hA5 := hA.mono s45
            have hy5 := hA5.yes e he10 hh
            have e5 := s5 _ _ e4
            walk_at "xx"
            refine m_ty (lst_of e5) ?_
            walk_at "xx"
            refine kd_t hA5.at_ (s5 _ _ ee4) hy5.1 ?_
            walk_at "xx"
            have lR := hA5.sz e
            refine ⟨xc, xb, Ad e, c, b, holR 0 S e, m, rfl, s5 _ _ exc, s5 _ _ exb, lst_of hy5.2.1, by omega, by omega, fun p us2 H6 s6 np e6 t6 => ?_⟩
            have e6D := s6 _ _ e5
            have lu2 : us2.length ≤ 60 := by
              have h1 := t6.length
              rw [List.length_map, List.length_reverse] at h1
              have h2 : (holR 0 S e).length ≤ 5 * S.length := holR_len fun s hs => (hS.sz s hs).1
              have h3 := br_len (c := c) (ks := holR 0 S e) (b := b)
              split at h1
              · rw [List.length_nil] at h1
                omega
              · omega
            walk_at "xx"
            refine m_ext e6D e6 ?_ fun H7 c7 e7 => ?_
            · have : ws'.length + us2.length < sizeLine := smallM (by omega)
              omega
            · have hX : (if c.length = m then [] else br (holR 0 S e) c b) ++ st = push S m e c b st := by
                have := g.len
                have : c.length ≤ m := this
                unfold push
                by_cases z : c.length = m
                · rw [if_pos z, if_neg (by omega)]
                  rfl
                · rw [if_neg z, if_pos (by omega), br_holS]
              walk_at "xx"
              refine ⟨_, _, _, push S m e c b st, rfl, c7.same (s45.trans s6) nD1, ⟨⟨_, e7, ?_⟩, push_good hg hi1, ?_⟩, ?_⟩
              · rw [← hX, List.reverse_append, List.map_append]
                have tk : TK H4 H7 := (s5.tk.trans s6.tk).trans (c7.tk e6D)
                exact tpApp (tw1.tk ((c4.tk eD2).trans tk)) (t6.tk (c7.tk e6D))
              · rw [← hX, List.length_append]
                have h1 := t6.length
                rw [List.length_map, List.length_reverse] at h1
                simp at ls
                omega
              · rw [← ea]
                have : hol S e ≠ [] := fun z => hh (nil_holS.mpr z)
                simp [acc, this, hi1]
    · obtain ⟨_, _, _, st, rfl, s3, hst, ea⟩ := p
      obtain ⟨⟨ws, eD2, tw⟩, hg, ls⟩ := hst
      walk_at "xx"
      refine e_notT ?_
      walk_at "xx"
      refine k_trL (lst_of eD2) ?_
      rw [lu, List.drop_of_length_le (Nat.le_refl _)] at ea
      rw [empty_tp tw]
      have e2 : (!(!((st.reverse.map ndD).isEmpty))) = acc S m ps [([], [])] := by
        rw [← ea]
        cases st <;> simp [acc]
      rw [e2]
      exact q H' (s1.trans s3)
end
end K39
-- WIDE
-- DK _law_ascending found
namespace K39
open PySem PySem.Spec PyProof.Rows L2 Wy WN WQ WS WC WE WX WXD
open W6 (uu)

theorem ti_len {i : Int} (h : i.natAbs < 10 ^ 4) : (Str.ofString (toString i)).length ≤ 10 := by
  have e := PySem.int_text_length_le10 (k := 4) (by decide) h
  rw [PySem.ofString_length]
  omega
theorem mem_putK {kvs : List (Key × V)} {k : Key} {v : V} {q : Key × V} (h : q ∈ putK kvs k v) : q ∈ kvs ∨ q = (k, v) := by
  unfold putK at h
  split at h
  · obtain ⟨p, hp, rfl⟩ := List.mem_map.mp h
    by_cases e : p.1 = k
    · rw [if_pos e]
      exact .inr (by rw [e])
    · rw [if_neg e]
      exact .inl hp
  · rcases List.mem_append.mp h with h | h
    · exact .inl h
    · exact .inr (List.mem_singleton.mp h)
theorem valV_mem {kvs : List (Key × V)} {k : Key} (h : k ∈ kvs.map (·.1)) : ∃ v, valV kvs k = some v ∧ (k, v) ∈ kvs := by
  induction kvs with
  | nil => exact absurd h (by simp)
  | cons p r ih =>
    by_cases e : p.1 = k
    · exact ⟨p.2, valV_pos e, by rw [← e]; exact List.mem_cons_self ..⟩
    · rw [List.map_cons] at h
      rcases List.mem_cons.mp h with h | h
      · exact absurd h.symm e
      · obtain ⟨v, h1, h2⟩ := ih h
        exact ⟨v, by rw [valV_neg e]; exact h1, List.mem_cons_of_mem _ h2⟩
theorem w_keysV {σ : L2.St} {H : Hp} {i : Nat} {d : Addr} {R : It → Hp → Prop} {od : Obj} {kvs : List (Key × V)} (hi : σ[i]? = some (some (.ref d))) (e : H d = some (.frz od (.dK kvs))) (h : R (Itk d od kvs) H) : iKeys (tVar i) σ H R :=
  e_var hi ⟨d, od, rfl, .inl ⟨kvs, e, h⟩⟩
theorem ev_shape {e : Nat} (he : e < 10) : ∃ (s : Str) (j : Int) (r : List Key), evK e = .inr s :: .inl j :: r ∧ s.length ≤ 10 ∧ j.natAbs ≤ 10 ∧ (r = [] ∨ (∃ i : Int, r = [.inl i] ∧ i.natAbs ≤ 10) ∨ ∃ z : Str, r = [.inr z] ∧ z.length ≤ 10) := by
  match e, he with
  | 0, _ => exact ⟨_, _, _, rfl, by decide +kernel, by decide +kernel, .inr (.inr ⟨_, rfl, by decide +kernel⟩)⟩
  | 1, _ => exact ⟨_, _, _, rfl, by decide +kernel, by decide +kernel, .inr (.inr ⟨_, rfl, by decide +kernel⟩)⟩
  | 2, _ => exact ⟨_, _, _, rfl, by decide +kernel, by decide +kernel, .inl rfl⟩
  | 3, _ => exact ⟨_, _, _, rfl, by decide +kernel, by decide +kernel, .inl rfl⟩
  | 4, _ => exact ⟨_, _, _, rfl, by decide +kernel, by decide +kernel, .inl rfl⟩
  | 5, _ => exact ⟨_, _, _, rfl, by decide +kernel, by decide +kernel, .inr (.inl ⟨_, rfl, by decide +kernel⟩)⟩
  | 6, _ => exact ⟨_, _, _, rfl, by decide +kernel, by decide +kernel, .inr (.inl ⟨_, rfl, by decide +kernel⟩)⟩
  | 7, _ => exact ⟨_, _, _, rfl, by decide +kernel, by decide +kernel, .inl rfl⟩
  | 8, _ => exact ⟨_, _, _, rfl, by decide +kernel, by decide +kernel, .inl rfl⟩
  | 9, _ => exact ⟨_, _, _, rfl, by decide +kernel, by decide +kernel, .inr (.inl ⟨_, rfl, by decide +kernel⟩)⟩
  | n + 10, h => exact absurd h (by omega)
section
variable {P : Program} {w : World} {K : PySem.W.Frag} {mg : Str → Option Value} {base : Heap}
def spEvt : Sp := fun vs H Q _ => ∃ n : Nat, vs = [.int (n : Int)] ∧ n < 10 ∧ ∀ v H', Same H H' → Tp H' v (evD n) → Q v H'
theorem k_law_event (T : Tx K mg) : C8.Cal P w K mg base 1 "_law_event" spEvt [] := by
  refine cal_of (N := n_law_event) T.d_law_event sc_law_event (fun _ _ F => F.bindsN fun _ _ _ _ _ _ us hl => match us, hl with | [_], _ => rfl) (fun vs H Q E h => ?_) (fun f cdv A outer s H vs Q E hr h => ?_)
  · obtain ⟨n, rfl, _⟩ := h
    rfl
  · obtain ⟨n, rfl, hn, q⟩ := h
    refine ⟨_, (pss_cons (ps_asg (pe_lst (pa_cons (pe_tup (pa_cons pe_str (pa_cons pe_int (pa_cons pe_str pa_nil)))) (pa_cons (pe_tup (pa_cons pe_str (pa_cons pe_int (pa_cons pe_str pa_nil)))) (pa_cons (pe_tup (pa_cons pe_str (pa_cons pe_int pa_nil))) (pa_cons (pe_tup (pa_cons pe_str (pa_cons pe_int pa_nil))) (pa_cons (pe_tup (pa_cons pe_str (pa_cons pe_int pa_nil))) (pa_cons (pe_tup (pa_cons pe_str (pa_cons pe_int (pa_cons pe_int pa_nil)))) pa_nil))))))) (pg_name (i := 1) sc_law_event.nd rfl (Or.inl rfl))) (pss_cons (ps_asg (pe_op op_add3 (pv 1) (pe_lst (pa_cons (pe_tup (pa_cons pe_str (pa_cons pe_int (pa_cons pe_int pa_nil)))) (pa_cons (pe_tup (pa_cons pe_str (pa_cons pe_int pa_nil))) (pa_cons (pe_tup (pa_cons pe_str (pa_cons pe_int pa_nil))) (pa_cons (pe_tup (pa_cons pe_str (pa_cons pe_int (pa_cons pe_int pa_nil)))) pa_nil)))))) (pg_name (i := 1) sc_law_event.nd rfl (Or.inl rfl))) (pss_one (ps_ret (pe_ix (ix_seq : IxR _ (rIx K)) (pv 1) (pv 0) (fun _ _ => rfl)))))), ?_⟩
    walk_at "xx"
    apply o_addL
    · walk_at "hp"
    · walk_at "hp"
    · exact Nat.le_of_ble_eq_true rfl
    · intro p H2 np s2 e2
      have key : ∃ us, H2 p = some (.lst us) ∧ TpAll H2 us ([evD 0, evD 1, evD 2, evD 3, evD 4, evD 5, evD 6, evD 7, evD 8, evD 9]) := by
        refine ⟨_, e2, ?_⟩
        refine .cons (.tup (by walk_at "hp") (by walk_at "tp")) ?_
        refine .cons (.tup (by walk_at "hp") (by walk_at "tp")) ?_
        refine .cons (.tup (by walk_at "hp") (by walk_at "tp")) ?_
        refine .cons (.tup (by walk_at "hp") (by walk_at "tp")) ?_
        refine .cons (.tup (by walk_at "hp") (by walk_at "tp")) ?_
        refine .cons (.tup (by walk_at "hp") (by walk_at "tp")) ?_
        refine .cons (.tup (by walk_at "hp") (by walk_at "tp")) ?_
        refine .cons (.tup (by walk_at "hp") (by walk_at "tp")) ?_
        refine .cons (.tup (by walk_at "hp") (by walk_at "tp")) ?_
        exact .cons (.tup (by walk_at "hp") (by walk_at "tp")) .nil
      have e10 : [evD 0, evD 1, evD 2, evD 3, evD 4, evD 5, evD 6, evD 7, evD 8, evD 9] = (List.range 10).map evD := rfl
      obtain ⟨us, e3, tL⟩ := key
      rw [e10] at tL
      have S2 : Same H H2 := by walk_at "sa"
      obtain ⟨u, gu, tu⟩ := tpAt (x := n) tL (List.getElem?_range hn)
      clear e2
      walk_at "xx"
      refine o_ixL (lst_of e3) (atI_nat gu) ?_
      walk_at "xx"
      exact q u H2 S2 tu
def spAsc (K : PySem.W.Frag) : Sp := fun vs H Q _ => ∃ (a : Addr) (es : List Nat), vs = [.ref a] ∧ PapAt K H a es ∧ es.length ≤ 50 ∧
  ∀ p H' us es', Same H H' → H p = none → H' p = some (.lst us) → TpAll H' us ((es' : List Nat).map evD) → es'.length ≤ es.length → (∀ e ∈ es', e < 10) → Q (.ref p) H'
theorem k_law_ascending (T : Tx K mg) : C8.Cal P w K mg base 1 "_law_ascending" (spAsc K) [] := by
  refine cal_of (N := n_law_ascending) T.d_law_ascending sc_law_ascending (fun _ _ F => F.bindsN fun _ _ _ _ _ _ us hl => match us, hl with | [_], _ => rfl) (fun vs H Q E h => ?_) (fun f cdv A outer s H vs Q E hr h => ?_)
  · obtain ⟨a, es, rfl, _⟩ := h
    rfl
  · obtain ⟨a, es, rfl, hP, lp, q⟩ := h
    refine ⟨_, (pss_cons (ps_asg pe_dnewK (pg_name (i := 1) sc_law_ascending.nd rfl (Or.inr rfl))) (pss_cons (ps_for PassesOwn.never rfl (pi_list (pv 0) : PI _ _ _ (iList K _)) (pg_name (i := 2) sc_law_ascending.nd rfl (Or.inl rfl)) (pss_cons (ps_asg pe_str (pg_name (i := 3) sc_law_ascending.nd rfl (Or.inl rfl))) (C8.pss_cut (ps_if (pt_cmpR op_gt (pe_callB (call_len2 : CallR _ _ (rLn K)) (by rfl) T.z_len (by decide +kernel) (pa_cons (pv 2) pa_nil)) pe_int (nomark _)) (pss_one (ps_asg (pe_callTy (WXD.call_strA : CallR _ _ WXD.rStrA) (by rfl) T.z_str (by decide +kernel) (pa_cons (pe_ix (ix_seq : IxR _ (rIx K)) (pv 2) pe_int (fun _ _ => rfl)) pa_nil)) (pg_name (i := 3) sc_law_ascending.nd rfl (Or.inl rfl)))) pss_nil) (pss_one (ps_dput (uu hr.units) (pv 1) (pe_joined2 (PJ.cons (pe_fmt (pe_ix (ix_seq : IxR _ (rIx K)) (pv 2) pe_int (fun _ _ => rfl))) (PJ.cons pe_str (PJ.cons (pe_fmt (pe_op op_add3 pe_int (pe_ix (ix_seq : IxR _ (rIx K)) (pv 2) pe_int (fun _ _ => rfl)))) (PJ.cons pe_str (PJ.cons (pe_fmt (pv 3)) PJ.nil)))))) (pv 2) rfl))))) (pss_one (ps_ret (pe_lc (own := [("key", 4)]) (g := gName 4) (tt := tYes) (by rfl) sc_law_ascending.nd (pi_list (pe_callC WXD.cc_sortedS (by rfl) T.z_sorted (by decide +kernel) (pa_cons (pe_lock (pe_lc (own := [("key", 4)]) (g := gName 4) (tt := tYes) (by rfl) sc_law_ascending.nd (pi_keys (pv 1)) (blkOk_by (own := [("key", 4)]) (N := n_law_ascending) (sc := defScope s_law_ascending) (by decide +kernel)) (fun _ _ _ _ _ => pg_name (i := 4) sc_law_ascending.nd rfl (Or.inl rfl)) (fun _ _ _ _ _ => pts_nil) (fun _ _ _ _ _ => (pe_callTy (WXD.call_strA : CallR _ _ WXD.rStrA) (by rfl) T.z_str (by decide +kernel) (pa_cons (pv 4) pa_nil))))) pa_nil)) : PI _ _ _ (iList K _)) (blkOk_by (own := [("key", 4)]) (N := n_law_ascending) (sc := defScope s_law_ascending) (by decide +kernel)) (fun _ _ _ _ _ => pg_name (i := 4) sc_law_ascending.nd rfl (Or.inl rfl)) (fun _ _ _ _ _ => pts_nil) (fun _ _ _ _ _ => (pe_dget (uu hr.units) (pv 1) (pv 4) (fun _ _ => rfl)))))))), ?_⟩
    walk_at "xx"
    refine WD.e_dnew fun d H1 nd s1 e1 => ?_
    walk_at "xx"
    obtain ⟨us, hu, tu, hlt⟩ := hP
    have lu : us.length = es.length := by have := tu.length; rwa [List.length_map] at this
    refine k_l (s1.seq hu) ?_
    refine f_list (xs := us) (fun i σ H' => ∃ (x2 x3 x4 : Option V) (kvs : List (Key × V)), σ = [some (.ref a), some (.ref d), x2, x3, x4] ∧ Same H H' ∧ H' d = some (.dK kvs) ∧ kvs.length ≤ i ∧ ∀ q ∈ kvs, ∃ x e, q.1 = .inr x ∧ e < 10 ∧ Tp H' q.2 (evD e))
      ⟨_, _, _, [], rfl, s1, e1, Nat.le_refl _, fun q h => absurd h (by simp)⟩ (fun i σ H' hi p => ?_) (fun i x σ H' hx p => ?_) (fun σ H' p => ?_)
    · obtain ⟨_, _, _, kvs, rfl, s2, e2, lk, hk⟩ := p
      exact s2.seq hu
    · obtain ⟨_, _, _, kvs, rfl, s2, e2, lk, hk⟩ := p
      obtain ⟨e, he, te⟩ := tpGet tu hx
      have he10 := hlt e (List.mem_of_getElem? he)
      obtain ⟨eb, rfl, ee⟩ := tp_ev te
      obtain ⟨s, j, r, ek, ls, lj, hr2⟩ := ev_shape he10
      have ee2 := s2 _ _ ee
      rw [ek, List.map_cons, List.map_cons] at ee2
      have hi := (List.getElem?_eq_some_iff.mp hx).1
      walk_at "xx"
      refine s_cut (fun σ H4 => ∃ (y : Str) (x4 : Option V), σ = [some (.ref a), some (.ref d), some (.ref eb), some (.str y), x4] ∧ H' = H4 ∧ y.length ≤ 100) ?_ (fun σ H4 p => ?_)
      · rcases hr2 with rfl | ⟨i3, rfl, li⟩ | ⟨z, rfl, lz⟩
        · have ee3 : H' eb = some (.tup [.str s, .int j]) := ee2
          walk_at "xx"
          refine ⟨_, _, rfl, rfl, ?_⟩
          exact Nat.le_of_ble_eq_true rfl
        · have ee3 : H' eb = some (.tup [.str s, .int j, .int i3]) := ee2
          walk_at "xx"
          refine c_strI (by omega) ?_
          walk_at "xx"
          refine ⟨_, _, rfl, rfl, ?_⟩
          exact Nat.le_trans (ti_len (by omega)) (by decide)
        · have ee3 : H' eb = some (.tup [.str s, .int j, .str z]) := ee2
          walk_at "xx"
          refine c_strS ?_
          walk_at "xx"
          refine ⟨_, _, rfl, rfl, ?_⟩
          omega
      · obtain ⟨y, x4, rfl, rfl, ly⟩ := p
        have ee3 : H' eb = some (.tup (.str s :: .int j :: r.map kV)) := ee2
        have lt := ti_len (i := 1000 + j) (by omega)
        have small : ∀ n : Nat, n ≤ 1000 → n ≤ sizeLine := fun n h => by rw [sizeLine_eq]; omega
        have l0 : Str.empty.length = 0 := rfl
        have l1 : (Str.ofString " ").length = 1 := rfl
        walk_at "xx"
        refine k_fS (small _ (by omega)) ?_
        refine k_j (small _ (by simp only [app_len, l0, l1]; omega)) ?_
        walk_at "xx"
        refine k_j (small _ (by simp only [app_len, l0, l1]; omega)) ?_
        walk_at "xx"
        refine k_fI (by omega) ?_
        refine k_j (small _ (by simp only [app_len, l0, l1]; omega)) ?_
        walk_at "xx"
        refine k_j (small _ (by simp only [app_len, l0, l1]; omega)) ?_
        walk_at "xx"
        refine k_fS (small _ (by omega)) ?_
        refine k_j (small _ (by simp only [app_len, l0, l1]; omega)) ?_
        walk_at "xx"
        refine WD.k_p e2 (small1000' (by omega)) fun H4 c4 e4 => ?_
        refine ⟨_, _, _, _, rfl, c4.same s2 nd, e4, Nat.le_trans (length_putK _ _ _) (by omega), fun q hq => ?_⟩
        have k4 : TK H' H4 := fun b ys h => c4.at h (ne_of h e2 (fun z => nomatch z))
        rcases mem_putK hq with hq | rfl
        · obtain ⟨x, e', h1, h2, h3⟩ := hk q hq
          exact ⟨x, e', h1, h2, h3.tk k4⟩
        · exact ⟨_, e, rfl, he10, (te.tk s2.tk).tk k4⟩
    · obtain ⟨_, _, _, kvs, rfl, s2, e2, lk, hk⟩ := p
      walk_at "xx"
      refine e_lockE e2 True.intro fun od H3 e3 k3 f3 => ?_
      walk_at "xx"
      refine w_keysV (i := 1) rfl e3 ?_
      refine c_keys e3 (fun q hq => by obtain ⟨x, _, h, _⟩ := hk q hq; exact ⟨x, h⟩) (by omega) (fun x => rfl) (fun x H4 N s4 hN => ?_) (fun D H4 xs nD s4 e4 ek => ?_)
      · walk_at "xx"
        refine c_strS ?_
        exact hN
      · refine ⟨s4 _ _ e3, ?_⟩
        have nDd : D ≠ d := Ne.symm (ne_of_none e3 nD)
        have e5 : upd H4 d (.dK kvs) D = some (.lst (xs.map V.str)) := by rw [upd_ne nDd]; exact e4
        have e5d : upd H4 d (.dK kvs) d = some (.dK kvs) := upd_same
        have s5 : Same H' (upd H4 d (.dK kvs)) := fun b o h => by
          by_cases n : b = d
          · subst n
            rw [e2] at h
            rw [upd_same]
            exact h
          · rw [upd_ne n]
            exact s4 _ _ (k3 b o n h)
        generalize upd H4 d (.dK kvs) = H5 at *
        have lx : xs.length = kvs.length := by
          have := congrArg List.length ek
          rw [List.length_map, List.length_map] at this
          exact this.symm
        walk_at "xx"
        refine b_sortS (lst_of e5) (by omega) fun p H6 zs hz np s6 e6 => ?_
        have e6d := s6 _ _ e5d
        have S6 : Same H H6 := s2.trans (s5.trans s6)
        refine k_l (lst_of e6) ?_
        refine c_acc (xs := zs.map V.str) (.inl ⟨rfl, lst_of e6⟩) (fun i acc H => ∃ es' : List Nat, TpAll H acc (es'.map evD) ∧ es'.length = i ∧ ∀ e ∈ es', e < 10) (fun i acc H H' k h => ?_) (fun i acc H hi h => ?_) ⟨[], .nil, rfl, fun _ h => absurd h (by simp)⟩ (fun j x H7 acc N M hx s7 r hN hM => ?_) (fun D2 H7 ys nD2 s7 e7 r => ?_)
        · obtain ⟨es', h1, h2, h3⟩ := h
          exact ⟨es', h1.tk k, h2, h3⟩
        · obtain ⟨es', h1, h2, h3⟩ := h
          have h4 := h1.length
          have h5 := hz.length_eq
          rw [List.length_map] at h4 hi
          exact small1000' (by omega)
        · obtain ⟨es', h1, h2, h3⟩ := r
          rw [List.getElem?_map] at hx
          obtain ⟨z, hz1, rfl⟩ := Option.map_eq_some_iff.mp hx
          have hzx : z ∈ xs := hz.mem_iff.mp (List.mem_of_getElem? hz1)
          have hm : (Sum.inr z : Key) ∈ kvs.map (·.1) := by rw [ek]; exact List.mem_map.mpr ⟨z, hzx, rfl⟩
          obtain ⟨v, gv, mv⟩ := valV_mem hm
          obtain ⟨_, e', _, q2, q3⟩ := hk _ mv
          refine g_name ⟨rfl, t_yes (iteTT rfl ?_)⟩
          walk_at "xx"
          refine WD.k_d (s7 _ _ e6d) gv ?_
          refine hN _ _ (Same.refl _) ⟨es' ++ [e'], ?_, by rw [List.length_append, h2]; rfl, fun e he => ?_⟩
          · rw [List.map_append]
            exact tpSnoc h1 (q3.tk (s5.trans (s6.trans s7)).tk)
          · rcases List.mem_append.mp he with he | he
            · exact h3 e he
            · rw [List.mem_singleton.mp he]
              exact q2
        · obtain ⟨es', h1, h2, h3⟩ := r
          have h5 := hz.length_eq
          rw [List.length_map] at h2
          exact q D2 H7 ys es' (S6.trans s7) (S6.free nD2) e7 h1 (by omega) h3
end
end K39
-- WIDE
namespace K39
open PySem PySem.Spec PyProof.Rows L2 Wy WN WQ WS WC WE WX WXD
open W6 (uu)

section
variable {P : Program} {w : World} {K : PySem.W.Frag} {mg : Str → Option Value} {base : Heap}
def SetsL (H : Hp) (us : List V) (S : List (List Nat)) : Prop := TpAll H us (S.map setD) ∧ ∀ s ∈ S, s.length ≤ 5 ∧ ∀ e ∈ s, e < 10
def spSets : Sp := fun vs H Q _ => ∃ (h d : Addr), vs = [.ref h] ∧ HandAt H h d ∧ ∀ p H' us S, Keep h H H' → HandAt H' h d → H p = none → p ≠ h → H' p = some (.lst us) → SetsL H' us S → S.length ≤ 12 → Q (.ref p) H'
theorem k_law_sets (T : Tx K mg) : C8.Cal P w K mg base 2 "_law_sets" spSets [] := by
  refine cal_of (N := n_law_sets) T.d_law_sets sc_law_sets (fun _ _ F => F.bindsN fun _ _ _ _ _ _ us hl => match us, hl with | [_], _ => rfl) (fun vs H Q E h => ?_) (fun f cdv A outer s H vs Q E hr h => ?_)
  · obtain ⟨h, d, rfl, _⟩ := h
    rfl
  · obtain ⟨h, d, rfl, hh, q⟩ := h
    refine ⟨_, (pss_cons (ps_asg (pe_lst pa_nil) (pg_name (i := 1) sc_law_sets.nd rfl (Or.inl rfl))) (pss_cons (ps_asg (C8.pe_c (k_law_take T) hr (by first | decide | omega) (by rfl) (pa_cons (pv 0) (pa_cons pe_int pa_nil))) (pg_name (i := 2) sc_law_sets.nd rfl (Or.inl rfl))) (C8.pss_cut (ps_if (pt_cmpR (op_eq2 hr.units : OpR _ _ (rEq2 K)) (C8.pe_c (k_law_take T) hr (by first | decide | omega) (by rfl) (pa_cons (pv 0) (pa_cons pe_int pa_nil))) pe_int (nomark _)) (pss_one (ps_asg (pe_op op_add3 pe_int (C8.pe_c (k_law_take T) hr (by first | decide | omega) (by rfl) (pa_cons (pv 0) (pa_cons pe_int pa_nil)))) (pg_name (i := 2) sc_law_sets.nd rfl (Or.inl rfl)))) pss_nil) (pss_cons (ps_for PassesOwn.never rfl (pi_range1 (by rfl) T.z_range (pa_cons (pv 2) pa_nil)) (pg_name (i := 3) sc_law_sets.nd rfl (Or.inl rfl)) (pss_cons (ps_setLc (i := 4) (own := [("j", 6)]) (g := gName 6) (tt := tYes) (by rfl) sc_law_sets.nd rfl rfl (sw_true rfl rfl rfl (by decide +kernel)) (pi_range1 (by rfl) T.z_range (pa_cons (pe_op op_add3 pe_int (C8.pe_c (k_law_take T) hr (by first | decide | omega) (by rfl) (pa_cons (pv 0) (pa_cons pe_int pa_nil)))) pa_nil)) (blkOk_by (own := [("j", 6)]) (N := n_law_sets) (sc := defScope s_law_sets) (by decide +kernel)) (fun _ _ _ _ _ => pg_name (i := 6) sc_law_sets.nd rfl (Or.inl rfl)) (fun _ _ _ _ _ => pts_nil) (fun _ _ _ _ _ => (C8.pe_c (k_law_event T) hr (by first | decide | omega) (by rfl) (pa_cons (C8.pe_c (k_law_take T) hr (by first | decide | omega) (by rfl) (pa_cons (pv 0) (pa_cons pe_int pa_nil))) pa_nil)))) (pss_cons (ps_asg (pe_callTy (W6.call_tup2 : CallR _ _ (W6.rTup K)) (by rfl) T.z_tuple (by decide +kernel) (pa_cons (C8.pe_c (k_law_ascending T) hr (by first | decide | omega) (by rfl) (pa_cons (pv 4) pa_nil)) pa_nil)) (pg_name (i := 5) sc_law_sets.nd rfl (Or.inl rfl))) (pss_one (ps_if (pt_cmpR (op_notInD (WP.room65 hr) : OpR _ _ (rNotInD K)) (pv 5) (pv 1) (by rfl)) (pss_one (ps_expr (pe_bm PySem.F.plainAttrs_list PySem.F.slot_list_append PySem.F.type_list_append mt_append (pv 1) (pa_cons (pv 5) pa_nil) : PE _ _ (tBM K _ _ _ _)))) pss_nil))))) (pss_one (ps_ret (pv 1))))))), ?_⟩
    walk_at "xx"
    rename_i D H1 nD s1 e1
    have neD : D ≠ h := Ne.symm (hh.new nD).1
    refine ⟨h, d, 7, rfl, hh.same s1, by decide, fun r H2 r0 r1 c2 hh2 => ?_⟩
    have e2 := c2.at e1 neD
    have K2 : Keep h H H2 := s1.keep.trans c2.keep
    walk_at "xx"
    refine s_cut (fun σ H3 => ∃ (m : Int) (x3 x4 x5 x6 : Option V), σ = [some (.ref h), some (.ref D), some (.int m), x3, x4, x5, x6] ∧ (0 ≤ m ∧ m ≤ 12) ∧ Keep h H H3 ∧ HandAt H3 h d ∧ H3 D = some (.lst [])) ?_ (fun σ H3 p => ?_)
    · walk_at "xx"
      refine ⟨h, d, 5, rfl, hh2, by decide, fun r' H3 r0' r1' c3 hh3 => ?_⟩
      walk_at "xx"
      refine iteI (fun e => ?_) (fun e => ?_)
      · walk_at "xx"
        refine ⟨h, d, 4, rfl, hh3, by decide, fun r4 H4 r40 r41 c4 hh4 => ?_⟩
        walk_at "xx"
        exact ⟨9 + r4, _, _, _, _, rfl, by omega, K2.trans (c3.keep.trans c4.keep), hh4, c4.at (c3.at e2 neD) neD⟩
      · walk_at "xx"
        exact ⟨r, _, _, _, _, rfl, by omega, K2.trans c3.keep, hh3, c3.at e2 neD⟩
    · obtain ⟨m, x3, x4, x5, x6, rfl, hm, K3, hh3, e3⟩ := p
      obtain ⟨m, rfl⟩ : ∃ n : Nat, m = n := ⟨m.toNat, (Int.toNat_of_nonneg hm.1).symm⟩
      walk_at "xx"
      refine f_range (fun i σ H' => ∃ (x3 x4 x5 x6 : Option V) (us : List V) (S : List (List Nat)), σ = [some (.ref h), some (.ref D), some (.int m), x3, x4, x5, x6] ∧ Keep h H H' ∧ HandAt H' h d ∧ H' D = some (.lst us) ∧ SetsL H' us S ∧ S.length ≤ i)
        ⟨_, _, _, _, [], [], rfl, K3, hh3, e3, ⟨.nil, fun _ h => absurd h (by simp)⟩, Nat.le_refl _⟩ (fun i σ H4 hi p => ?_) (fun σ H4 p => ?_)
      · obtain ⟨x3, x4, x5, x6, us, S, rfl, K4, hh4, e4, hS, lS⟩ := p
        walk_at "xx"
        refine ⟨h, d, 5, rfl, hh4, by decide, fun r5 H5 r50 r51 c5 hh5 => ?_⟩
        walk_at "xx"
        have hl5 : (1 + r5).toNat ≤ 5 := by omega
        refine c_range (fun D2 i H1 => Keep h H5 H1 ∧ HandAt H1 h d ∧ ∃ us es, H1 D2 = some (.lst us) ∧ TpAll H1 us ((es : List Nat).map evD) ∧ es.length = i ∧ ∀ e ∈ es, e < 10) (fun D2 H1 nD s1 e1 => ⟨s1.keep, hh5.same s1, [], [], e1, .nil, rfl, fun _ h => absurd h (by simp)⟩) (fun D2 j H6 hj nD2 p => ?_) (fun D2 H6 nD2 p => ?_)
        · obtain ⟨k6, hh6, us2, es, e6, t6, l6, h6⟩ := p
          have ne2 : D2 ≠ h := Ne.symm (hh5.new nD2).1
          walk_at "xx"
          refine ⟨rfl, ?_⟩
          walk_at "xx"
          refine ⟨h, d, 9, rfl, hh6, by decide, fun r7 H7 r70 r71 c7 hh7 => ?_⟩
          walk_at "xx"
          refine ⟨r7.toNat, by rw [Int.toNat_of_nonneg r70]; rfl, by omega, fun v H8 s8 t8 => ?_⟩
          have e8 := s8 _ _ (c7.at e6 ne2)
          have l8 := t6.length
          rw [List.length_map] at l8
          refine c_out e8 (small1000' (by omega)) fun H9 c9 e9 => ⟨(k6.trans (c7.keep.trans s8.keep)).chg c9 nD2, (hh7.same s8).chg c9 (hh5.new nD2).1 (hh5.new nD2).2, us2 ++ [v], es ++ [r7.toNat], e9, ?_, by rw [List.length_append, l6]; rfl, fun e he => ?_⟩
          · rw [List.map_append]
            exact tpSnoc (((t6.tk (hh6.keep_tk c7.keep)).tk s8.tk).tk (c9.tk e8)) (t8.tk (c9.tk e8))
          · rcases List.mem_append.mp he with he | he
            · exact h6 e he
            · rw [List.mem_singleton.mp he]
              omega
        · obtain ⟨k6, hh6, us2, es, e6, t6, l6, h6⟩ := p
          have k46 : Keep h H4 H6 := c5.keep.trans k6
          have e46 := k46.at e4 neD
          walk_at "xx"
          refine ⟨D2, es, rfl, ⟨us2, lst_of e6, t6, h6⟩, by omega, fun p1 H7 us3 es3 s7 n7 e7 t7 l7 h7 => ?_⟩
          walk_at "xx"
          refine W6.b_tup (lst_of e7) fun p2 H8 n8 s8 e8 => ?_
          have S68 := s7.trans s8
          have e48 := S68 _ _ e46
          have k48 : Keep h H4 H8 := k46.trans S68.keep
          have t48 : TK H4 H8 := hh4.keep_tk k48
          have tS := hS.1.tk t48
          have tN : Tp H8 (.ref p2) (setD es3) := .tup e8 (t7.tk s8.tk)
          have hh8 := hh6.same S68
          walk_at "xx"
          refine ⟨setD es3, S.map setD, tN.dp, .lst (lst_of e48) tS.dp, setD_sh _, setsD_sh _, ?_⟩
          walk_at "xx"
          have lu := tS.length
          rw [List.length_map] at lu
          refine iteB (fun _ => ?_) (fun _ => ?_)
          · walk_at "xx"
            refine m_ty (lst_of e48) ?_
            walk_at "xx"
            refine m_app e48 (small1000' (by omega)) fun H9 c9 e9 => ?_
            walk_at "xx"
            refine ⟨_, _, _, _, us ++ [.ref p2], S ++ [es3], rfl, (K4.trans k48).chg c9 nD, ?_, e9, ⟨?_, fun s hs => ?_⟩, ?_⟩
            · exact hh8.chg c9 (hh.new nD).1 (hh.new nD).2
            · rw [List.map_append]
              exact tpSnoc (tS.tk (c9.tk e48)) (tN.tk (c9.tk e48))
            · rcases List.mem_append.mp hs with hs | hs
              · exact hS.2 s hs
              · rw [List.mem_singleton.mp hs]
                exact ⟨by omega, h7⟩
            · rw [List.length_append]
              exact Nat.succ_le_succ lS
          · walk_at "xx"
            exact ⟨_, _, _, _, us, S, rfl, K4.trans k48, hh8, e48, ⟨tS, hS.2⟩, by omega⟩
      · obtain ⟨x3, x4, x5, x6, us, S, rfl, K4, hh4, e4, hS, lS⟩ := p
        walk_at "xx"
        exact q D H4 us S K4 hh4 nD neD e4 hS (by omega)
end
end K39
-- WIDE
namespace K39
open PySem PySem.Spec PyProof.Rows L2 Wy WN WQ WS WC WE WX WXD
open W6 (uu)

section
variable {P : Program} {w : World} {K : PySem.W.Frag} {mg : Str → Option Value} {base : Heap}
theorem any_evs {S : List (List Nat)} {s : List Nat} {e : Nat} (hS : ∀ s ∈ S, s.length ≤ 5 ∧ ∀ e ∈ s, e < 10) (hs : s ∈ S) (he : e < 10) : (s.map evD).any (fun z => PyData.eqv z (evD e)) = s.contains e := any_ev he (hS s hs).2
def spAll (K : PySem.W.Frag) : Sp := fun vs H Q _ => ∃ (a : Addr) (S : List (List Nat)), vs = [.ref a] ∧ SetsAt K H a S ∧
  ∀ p H' us es, Same H H' → H p = none → H' p = some (.lst us) → TpAll H' us ((es : List Nat).map evD) → (∀ e, e ∈ es ↔ hol S e ≠ []) → (∀ e ∈ es, e < 10) → es.length ≤ 60 → Q (.ref p) H'
theorem k_law_all (T : Tx K mg) : C8.Cal P w K mg base 1 "_law_all" (spAll K) [] := by
  refine cal_of (N := n_law_all) T.d_law_all sc_law_all (fun _ _ F => F.bindsN fun _ _ _ _ _ _ us hl => match us, hl with | [_], _ => rfl) (fun vs H Q E h => ?_) (fun f cdv A outer s H vs Q E hr h => ?_)
  · obtain ⟨a, S, rfl, _⟩ := h
    rfl
  · obtain ⟨a, S, rfl, hS, q⟩ := h
    refine ⟨_, (pss_cons (ps_asg (pe_lst pa_nil) (pg_name (i := 1) sc_law_all.nd rfl (Or.inl rfl))) (pss_cons (ps_for PassesOwn.never rfl (pi_list (pv 0) : PI _ _ _ (iList K _)) (pg_name (i := 2) sc_law_all.nd rfl (Or.inl rfl)) (pss_one (ps_for PassesOwn.never rfl (pi_tup (pv 2) : PI _ _ _ (iTup K _)) (pg_name (i := 3) sc_law_all.nd rfl (Or.inl rfl)) (pss_one (ps_if (pt_cmpR (op_notInD (WP.room65 hr) : OpR _ _ (rNotInD K)) (pv 3) (pv 1) (by rfl)) (pss_one (ps_expr (pe_bm PySem.F.plainAttrs_list PySem.F.slot_list_append PySem.F.type_list_append mt_append (pv 1) (pa_cons (pv 3) pa_nil) : PE _ _ (tBM K _ _ _ _)))) pss_nil))))) (pss_one (ps_ret (pv 1))))), ?_⟩
    obtain ⟨us, hu, tu⟩ := hS.ex
    have lu : us.length = S.length := by have := tu.length; rwa [List.length_map] at this
    have hl := hS.len
    walk_at "xx"
    rename_i D H1 nD s1 e1
    refine k_l (s1.seq hu) ?_
    refine f_list (xs := us) (fun i σ H' => ∃ (x2 x3 : Option V) (ws : List V) (es : List Nat), σ = [some (.ref a), some (.ref D), x2, x3] ∧ Same H H' ∧ H' D = some (.lst ws) ∧ TpAll H' ws (es.map evD) ∧ (∀ e, e ∈ es ↔ ∃ s ∈ S.take i, e ∈ s) ∧ (∀ e ∈ es, e < 10) ∧ es.length ≤ 5 * i)
      ⟨_, _, [], [], rfl, s1, e1, .nil, fun e => by simp, fun _ h => absurd h (by simp), Nat.zero_le _⟩ (fun i σ H' hi p => ?_) (fun i x σ H' hx p => ?_) (fun σ H' p => ?_)
    · obtain ⟨_, _, ws, es, rfl, s2, e2, t2, m2, h2, l2⟩ := p
      exact s2.seq hu
    · obtain ⟨_, _, ws, es, rfl, s2, e2, t2, m2, h2, l2⟩ := p
      obtain ⟨s, hs, ts⟩ := tpGet tu hx
      obtain ⟨b, vs, rfl, eb, tv⟩ := tpL ts
      have hsm := List.mem_of_getElem? hs
      have hi := (List.getElem?_eq_some_iff.mp hx).1
      have hb := (hS.sz s hsm).1
      have hb2 := (hS.sz s hsm).2
      have lv : vs.length = s.length := by have := tv.length; rwa [List.length_map] at this
      walk_at "xx"
      refine f_tup (xs := vs) (fun j σ H4 => ∃ (x3 : Option V) (ws : List V) (es : List Nat), σ = [some (.ref a), some (.ref D), some (.ref b), x3] ∧ Same H H4 ∧ H4 D = some (.lst ws) ∧ TpAll H4 ws (es.map evD) ∧ (∀ e, e ∈ es ↔ (∃ s ∈ S.take i, e ∈ s) ∨ e ∈ s.take j) ∧ (∀ e ∈ es, e < 10) ∧ es.length ≤ 5 * i + j)
        ⟨_, ws, es, rfl, s2, e2, t2, fun e => by rw [m2 e]; simp, h2, l2⟩ (fun j σ H4 hj p => ?_) (fun j x σ H4 hx p => ?_) (fun σ H4 p => ?_)
      · obtain ⟨_, ws, es, rfl, s4, e4, t4, m4, h4, l4⟩ := p
        exact tup_of (s4 _ _ eb)
      · obtain ⟨_, ws, es, rfl, s4, e4, t4, m4, h4, l4⟩ := p
        obtain ⟨e, he, te⟩ := tpGet tv hx
        have he10 := hb2 e (List.mem_of_getElem? he)
        have hj := (List.getElem?_eq_some_iff.mp hx).1
        have tk4 : s.take (j + 1) = s.take j ++ [e] := by rw [List.take_add_one, he]; rfl
        have lw := t4.length
        rw [List.length_map] at lw
        walk_at "xx"
        refine ⟨evD e, es.map evD, (te.tk s4.tk).dp, .lst (lst_of e4) t4.dp, evD_sh _, evsD_sh _, ?_⟩
        rw [any_ev he10 h4]
        walk_at "xx"
        refine iteB (fun z => ?_) (fun z => ?_)
        · walk_at "xx"
          refine m_ty (lst_of e4) ?_
          walk_at "xx"
          refine m_app e4 (small1000' (by omega)) fun H5 c5 e5 => ?_
          walk_at "xx"
          refine ⟨_, ws ++ [x], es ++ [e], rfl, c5.same s4 nD, e5, ?_, fun e' => ?_, fun e' h' => ?_, ?_⟩
          · rw [List.map_append]
            exact tpSnoc (t4.tk (c5.tk e4)) ((te.tk s4.tk).tk (c5.tk e4))
          · rw [tk4, List.mem_append, List.mem_append, m4, or_assoc]
          · rcases List.mem_append.mp h' with h' | h'
            · exact h4 e' h'
            · rw [List.mem_singleton.mp h']
              exact he10
          · rw [List.length_append]
            exact Nat.succ_le_succ l4
        · walk_at "xx"
          refine ⟨_, ws, es, rfl, s4, e4, t4, fun e' => ?_, h4, by omega⟩
          have z2 : e ∈ es := by simpa using z
          rw [tk4, List.mem_append, m4]
          constructor
          · rintro (h | h)
            · exact .inl h
            · exact .inr (.inl h)
          · rintro (h | h | h)
            · exact .inl h
            · exact .inr h
            · rw [List.mem_singleton.mp h]
              exact (m4 e).mp z2
      · obtain ⟨x3, ws, es, rfl, s4, e4, t4, m4, h4, l4⟩ := p
        rw [lv, List.take_of_length_le (Nat.le_refl _)] at m4
        refine ⟨_, _, ws, es, rfl, s4, e4, t4, fun e => ?_, h4, by omega⟩
        rw [m4, List.take_add_one, hs]
        constructor
        · rintro (⟨s', h1, h2⟩ | h)
          · exact ⟨s', List.mem_append_left _ h1, h2⟩
          · exact ⟨s, List.mem_append_right _ (by simp), h⟩
        · rintro ⟨s', h1, h2⟩
          rcases List.mem_append.mp h1 with h1 | h1
          · exact .inl ⟨s', h1, h2⟩
          · have : s' = s := by simpa using h1
            exact .inr (this ▸ h2)
    · obtain ⟨_, _, ws, es, rfl, s2, e2, t2, m2, h2, l2⟩ := p
      walk_at "xx"
      rw [lu, List.take_of_length_le (Nat.le_refl _)] at m2
      exact q D H' ws es s2 nD e2 t2 (fun e => by rw [m2, hol_ne]) h2 (by omega)
end
end K39
-- WIDE
namespace K39
open PySem PySem.Spec PyProof.Rows L2 Wy WN WQ WS WC WE WX WXD
open W6 (uu)

section
variable {P : Program} {w : World} {K : PySem.W.Frag} {mg : Str → Option Value} {base : Heap}
theorem cat_sz {c : List Nat} {k : Nat} (h : c.length ≤ 900) : (c.map nV).length + ([nV k] : List V).length ≤ sizeLine := by
  rw [List.length_map, List.length_singleton, sizeLine_eq]
  omega
theorem holds_any {S : List (List Nat)} {e k : Nat} (hS : ∀ s ∈ S, s.length ≤ 5 ∧ ∀ e ∈ s, e < 10) (hk : k < S.length) (he : e < 10) : ((S.getD k []).map evD).any (fun z => PyData.eqv z (evD e)) = holds S e k := any_ev he (hS _ (getD_mem hk)).2
def spLBr (K : PySem.W.Frag) : Sp := fun vs H Q _ => ∃ (a eb ca ba : Addr) (S : List (List Nat)) (e : Nat) (c b : List Nat), vs = [.ref a, .ref eb, .ref ca, .ref ba] ∧ SetsAt K H a S ∧ Tp H (.ref eb) (evD e) ∧ e < 10 ∧ H ca = some (.tup (c.map nV)) ∧ H ba = some (.tup (b.map nV)) ∧ c.length ≤ 100 ∧ b.length ≤ 100 ∧
  ∀ p us H', Same H H' → H p = none → H' p = some (.lst us) → TpAll H' us ((br (hol S e) c b).map ndD) → Q (.ref p) H'
theorem k_law_branches (T : Tx K mg) : C8.Cal P w K mg base 1 "_law_branches" (spLBr K) [] := by
  refine cal_of (N := n_law_branches) T.d_law_branches sc_law_branches (fun _ _ F => F.bindsN fun _ _ _ _ _ _ us hl => match us, hl with | [_, _, _, _], _ => rfl) (fun vs H Q E h => ?_) (fun f cdv A outer s H vs Q E hr h => ?_)
  · obtain ⟨_, _, _, _, _, _, _, _, rfl, _⟩ := h
    rfl
  · obtain ⟨a, eb, ca, ba, S, e, c, b, rfl, hS, te, he, hc, hb, lc, lb, q⟩ := h
    refine ⟨_, (pss_cons (ps_asg (pe_lst pa_nil) (pg_name (i := 4) sc_law_branches.nd rfl (Or.inl rfl))) (pss_cons (ps_for PassesOwn.never rfl (pi_range1 (by rfl) T.z_range (pa_cons (pe_callB (call_len2 : CallR _ _ (rLn K)) (by rfl) T.z_len (by decide +kernel) (pa_cons (pv 0) pa_nil)) pa_nil)) (pg_name (i := 5) sc_law_branches.nd rfl (Or.inl rfl)) (pss_one (ps_if (PW.pt (pw_and (pt_cmpR (WXD.op_inT (WP.room65 hr) : OpR _ _ (WXD.rInT K false)) (pv 1) (pe_ix (ix_seq : IxR _ (rIx K)) (pv 0) (pv 5) (fun _ _ => rfl)) (by rfl)) (pw_and1 (pt_cmpR (op_ni2 : OpR _ _ (rNi2 K)) (pv 5) (pv 3) (by rfl))))) (pss_cons (ps_expr (pe_bm PySem.F.plainAttrs_list PySem.F.slot_list_append PySem.F.type_list_append mt_append (pv 4) (pa_cons (pe_tup (pa_cons (pe_op (op_catA : OpR _ _ (rCatA K)) (pv 2) (pe_tup (pa_cons (pv 5) pa_nil))) (pa_cons (pv 3) pa_nil))) pa_nil) : PE _ _ (tBM K _ _ _ _))) (pss_one (ps_asg (pe_op (op_catA : OpR _ _ (rCatA K)) (pv 3) (pe_tup (pa_cons (pv 5) pa_nil))) (pg_name (i := 3) sc_law_branches.nd rfl (Or.inl rfl))))) pss_nil))) (pss_one (ps_ret (pv 4))))), ?_⟩
    obtain ⟨us, hu, tu⟩ := hS.ex
    have lu : us.length = S.length := by have := tu.length; rwa [List.length_map] at this
    have hl := hS.len
    walk_at "xx"
    rename_i D H1 nD s1 e1
    refine b_lenL (s1.seq hu) ?_
    walk_at "xx"
    refine f_range (fun i σ H' => ∃ (ba' : Addr) (x : Option V) (ws : List V) (acc : List Node) (b' : List Nat), σ = [some (.ref a), some (.ref eb), some (.ref ca), some (.ref ba'), some (.ref D), x] ∧ Same H H' ∧ H' ba' = some (.tup (b'.map nV)) ∧ H' D = some (.lst ws) ∧ TpAll H' ws (acc.map ndD) ∧ acc ++ br (((List.range S.length).drop i).filter (holds S e)) c b' = br (hol S e) c b ∧ b'.length ≤ b.length + i ∧ acc.length ≤ i)
      ⟨ba, _, [], [], b, rfl, s1, s1 _ _ hb, e1, .nil, rfl, Nat.le_refl _, Nat.le_refl _⟩ (fun i σ H' hi p => ?_) (fun σ H' p => ?_)
    · obtain ⟨ba', x, ws, acc, b', rfl, s2, hb2, e2, t2, ea, lb2, la⟩ := p
      have hi : i < S.length := by omega
      obtain ⟨us', x', bb, vs, hu', gx, rfl, eb2, tb2⟩ := hS.at hi
      rw [drop_at (List.getElem?_range hi)] at ea
      have ei : (0 : Int) + (i : Int) = (i : Int) := by omega
      have lw := t2.length
      rw [List.length_map] at lw
      walk_at "xx"
      rw [ei]
      refine o_ixL (s2.seq hu') (atI_nat gx) ?_
      walk_at "xx"
      refine ⟨evD e, _, (te.tk s2.tk).dp, (Tp.tup (s2 _ _ eb2) (tb2.tk s2.tk)).dp, evD_sh _, setD_sh _, ?_⟩
      rw [holds_any hS.sz hi he]
      walk_at "xx"
      cases z : holds S e i with
      | false =>
        rw [List.filter_cons_of_neg (by rw [z]; exact Bool.false_ne_true)] at ea
        walk_at "xx"
        exact ⟨ba', _, ws, acc, b', rfl, s2, hb2, e2, t2, ea, by omega, by omega⟩
      | true =>
        rw [List.filter_cons_of_pos z] at ea
        walk_at "xx"
        refine o_niT (tup_of hb2) rfl (flat_nats b') ?_
        walk_at "xx"
        rw [inV_nats]
        have ek : b'.contains i = decide (i ∈ b') := by simp
        rw [ek]
        refine iteND (fun y => ?_) (fun y => ?_)
        · walk_at "xx"
          refine m_ty (lst_of e2) ?_
          walk_at "xx"
          rename_i p1 H3 n3 s3 e3
          have S3 := s2.trans s3
          refine WO.o_catT (S3 _ _ hc) e3 (cat_sz (c := c) (by omega)) fun p2 H4 s4 e4 => ?_
          have e4 : H4 p2 = some (.tup ((c ++ [i]).map nV)) := by rw [← nV_snoc]; exact e4
          walk_at "xx"
          rename_i p3 H5 n5 s5 e5
          have s35 := s3.trans (s4.trans s5)
          have hD5 := s35 _ _ e2
          refine m_app hD5 (small1000' (by omega)) fun H6 c6 e6 => ?_
          have ne3 : p3 ≠ D := ne_of e5 hD5 (fun z => nomatch z)
          have s26 : Same H H6 := c6.same (s2.trans s35) nD
          have hb6 := c6.at (s35 _ _ hb2) (ne_of (s35 _ _ hb2) hD5 (fun z => nomatch z))
          walk_at "xx"
          rename_i p4 H7 n7 s7 e7
          refine WO.o_catT (s7 _ _ hb6) e7 (cat_sz (c := b') (by omega)) fun p5 H8 s8 e8 => ?_
          have e8 : H8 p5 = some (.tup ((b' ++ [i]).map nV)) := by rw [← nV_snoc]; exact e8
          have s68 := s7.trans s8
          walk_at "xx"
          rw [br_out y] at ea
          have tk : TK H' H8 := s35.tk.trans ((c6.tk hD5).trans s68.tk)
          refine ⟨p5, _, ws ++ [.ref p3], acc ++ [(c ++ [i], b')], b' ++ [i], rfl, s26.trans s68, e8, s68 _ _ e6, ?_, ?_, ?_, ?_⟩
          · rw [List.map_append]
            refine tpSnoc (t2.tk tk) ?_
            exact nd_tp (s68 _ _ (c6.at e5 ne3)) (s68 _ _ (c6.at (s5 _ _ e4) (ne_of (s5 _ _ e4) hD5 (fun z => nomatch z)))) (s68 _ _ hb6)
          · rw [List.append_assoc]
            exact ea
          · rw [List.length_append, List.length_singleton]
            omega
          · rw [List.length_append, List.length_singleton]
            omega
        · rw [br_in y] at ea
          walk_at "xx"
          exact ⟨ba', _, ws, acc, b', rfl, s2, hb2, e2, t2, ea, by omega, by omega⟩
    · obtain ⟨ba', x, ws, acc, b', rfl, s2, hb2, e2, t2, ea, lb2, la⟩ := p
      walk_at "xx"
      rw [List.drop_of_length_le (by rw [List.length_range]; omega)] at ea
      have ea : acc = br (hol S e) c b := by simpa [br] using ea
      subst ea
      exact q D ws H' s2 nD e2 t2
end
end K39
-- WIDE
namespace K39
open PySem PySem.Spec PyProof.Rows L2 Wy WN WQ WS WC WE WX WXD
open W6 (uu)

section
variable {P : Program} {w : World} {K : PySem.W.Frag} {mg : Str → Option Value} {base : Heap}
theorem hol_nil {S : List (List Nat)} {e : Nat} : S.filter (fun s => s.contains e) = [] ↔ hol S e = [] := by
  constructor
  · intro h
    by_cases z : hol S e = []
    · exact z
    · obtain ⟨s, hs, he⟩ := hol_ne.mp z
      have : s ∈ S.filter (fun s => s.contains e) := List.mem_filter.mpr ⟨hs, by simpa using he⟩
      rw [h] at this
      exact absurd this (by simp)
  · intro h
    rw [List.filter_eq_nil_iff]
    intro s hs he
    exact hol_ne.mpr ⟨s, hs, by simpa using he⟩ h
theorem hit_nil {S : List (List Nat)} {e : Nat} {c : List Nat} : c.filter (holds S e) = [] ↔ hit S e c = false := by
  rw [List.filter_eq_nil_iff]
  constructor
  · intro h
    cases z : hit S e c with
    | false => rfl
    | true =>
      obtain ⟨k, hk, hh⟩ := hit_iff.mp z
      exact absurd hh (h k hk)
  · intro h k hk hh
    rw [hit_iff.mpr ⟨k, hk, hh⟩] at h
    exact absurd h (by decide)
theorem k_law_accepts (T : Tx K mg) : C8.Cal P w K mg base 2 "_law_accepts" (spCS K) [] := by
  refine cal_of (N := n_law_accepts) T.d_law_accepts sc_law_accepts (fun _ _ F => F.bindsN fun _ _ _ _ _ _ us hl => match us, hl with | [_, _, _], _ => rfl) (fun vs H Q E h => ?_) (fun f cdv A outer s H vs Q E hr h => ?_)
  · obtain ⟨_, _, _, _, _, rfl, _⟩ := h
    rfl
  · obtain ⟨a, pa, S, m, ps, rfl, hS, hP, lp, q⟩ := h
    refine ⟨_, (pss_cons (ps_asg (pe_lst (pa_cons (pe_tup (pa_cons (pe_tup pa_nil) (pa_cons (pe_tup pa_nil) pa_nil))) pa_nil)) (pg_name (i := 3) sc_law_accepts.nd rfl (Or.inl rfl))) (pss_cons (ps_for PassesOwn.never rfl (pi_list (pv 2) : PI _ _ _ (iList K _)) (pg_name (i := 4) sc_law_accepts.nd rfl (Or.inr rfl)) (pss_cons (ps_if (pt_cmpR (op_eq2 hr.units : OpR _ _ (rEq2 K)) (pe_callB (call_len2 : CallR _ _ (rLn K)) (by rfl) T.z_len (by decide +kernel) (pa_cons (pv 3) pa_nil)) pe_int (nomark _)) (pss_one (ps_ret pe_bl)) pss_nil) (pss_cons (ps_asg (pe_bm0 PySem.F.plainAttrs_list PySem.F.slot_list_pop PySem.F.type_list_pop mt_pop (pv 3) : PE _ _ (tBM0 K _ _ _)) (pg_tup (by rfl) (pgs_cons (pg_name (i := 5) sc_law_accepts.nd rfl (Or.inl rfl)) (pgs_cons (pg_name (i := 6) sc_law_accepts.nd rfl (Or.inl rfl)) pgs_nil)) : PG _ _ (gTup K _ _))) (pss_cons (ps_if (pt_cmpR (op_eq2 hr.units : OpR _ _ (rEq2 K)) (pe_callB (call_len2 : CallR _ _ (rLn K)) (by rfl) T.z_len (by decide +kernel) (pa_cons (pe_lc (own := [("one", 7)]) (g := gName 7) (tt := tTest _) (by rfl) sc_law_accepts.nd (pi_list (pv 0) : PI _ _ _ (iList K _)) (blkOk_by (own := [("one", 7)]) (N := n_law_accepts) (sc := defScope s_law_accepts) (by decide +kernel)) (fun _ _ _ _ _ => pg_name (i := 7) sc_law_accepts.nd rfl (Or.inl rfl)) (fun _ _ _ _ _ => (pts_one (pt_cmpR (WXD.op_inT (WP.room65 hr) : OpR _ _ (WXD.rInT K false)) (pv 4) (pv 7) (by rfl)))) (fun _ _ _ _ _ => (pv 7))) pa_nil)) pe_int (nomark _)) (pss_one (ps_ret pe_bl)) pss_nil) (pss_cons (ps_if (pt_cmpR op_gt (pe_callB (call_len2 : CallR _ _ (rLn K)) (by rfl) T.z_len (by decide +kernel) (pa_cons (pe_lc (own := [("k", 8)]) (g := gName 8) (tt := tTest _) (by rfl) sc_law_accepts.nd (pi_tup (pv 5) : PI _ _ _ (iTup K _)) (blkOk_by (own := [("k", 8)]) (N := n_law_accepts) (sc := defScope s_law_accepts) (by decide +kernel)) (fun _ _ _ _ _ => pg_name (i := 8) sc_law_accepts.nd rfl (Or.inl rfl)) (fun _ _ _ _ _ => (pts_one (pt_cmpR (WXD.op_inT (WP.room65 hr) : OpR _ _ (WXD.rInT K false)) (pv 4) (pe_ix (ix_seq : IxR _ (rIx K)) (pv 0) (pv 8) (fun _ _ => rfl)) (by rfl)))) (fun _ _ _ _ _ => (pv 8))) pa_nil)) pe_int (nomark _)) (pss_one (ps_ret pe_bl)) pss_nil) (pss_one (ps_if (pt_cmpR op_lt (pe_callB (call_len2 : CallR _ _ (rLn K)) (by rfl) T.z_len (by decide +kernel) (pa_cons (pv 5) pa_nil)) (pv 1) (nomark _)) (pss_one (ps_asg (pe_op op_add3 (pv 3) (pe_revL (C8.pe_c (k_law_branches T) hr (by first | decide | omega) (by rfl) (pa_cons (pv 0) (pa_cons (pv 4) (pa_cons (pv 5) (pa_cons (pv 6) pa_nil))))) : PE _ _ (tRevL K _))) (pg_name (i := 3) sc_law_accepts.nd rfl (Or.inl rfl)))) pss_nil))))))) (pss_one (ps_ret (pe_cmpR (op_eq2 hr.units : OpR _ _ (rEq2 K)) (pe_callB (call_len2 : CallR _ _ (rLn K)) (by rfl) T.z_len (by decide +kernel) (pa_cons (pv 3) pa_nil)) pe_int (nomark _)))))), ?_⟩
    obtain ⟨us, hu, tu⟩ := hS.ex
    have lu : us.length = S.length := by have := tu.length; rwa [List.length_map] at this
    have hl := hS.len
    obtain ⟨pus, hpu, tpu, hlt⟩ := hP
    have lpu : pus.length = ps.length := by have := tpu.length; rwa [List.length_map] at this
    walk_at "xx"
    rename_i t1 Ha na sa ea t2 Hb nb_ sb eb t3 Hc nc sc ec D H2 nD sd eD
    have s12 : Same H H2 := ((sa.trans sb).trans sc).trans sd
    have nD1 : H D = none := ((sa.trans sb).trans sc).free nD
    refine k_l (s12.seq hpu) ?_
    refine f_list (xs := pus) (fun i σ H' => ∃ (D : Addr) (x1 x2 x3 x4 x5 : Option V) (st : List Node), σ = [some (.ref a), some (.int m), some (.ref pa), some (.ref D), x1, x2, x3, x4, x5] ∧ Same H H' ∧ H D = none ∧ StkAt S m H' D st (1 + 60 * i) ∧ acc S m (ps.drop i) st = acc S m ps [([], [])])
      ⟨D, _, _, _, _, _, [([], [])], rfl, s12, nD1, ⟨⟨_, eD, .cons (nd_tp (sd _ _ ec) (sd _ _ (sc _ _ (sb _ _ ea))) (sd _ _ (sc _ _ eb))) .nil⟩, good_start, Nat.le_refl _⟩, rfl⟩ (fun i σ H' hi p => ?_) (fun i x σ H' hx p => ?_) (fun σ H' p => ?_)
    · obtain ⟨_, _, _, _, _, _, st, rfl, s3, nD3, hst, ea⟩ := p
      exact s3.seq hpu
    · clear eD nD nD1 sd
      obtain ⟨D, _, _, _, _, _, st, rfl, s3, nD, hst, ea⟩ := p
      obtain ⟨⟨ws, eD2, tw⟩, hg, ls⟩ := hst
      obtain ⟨e, he, te⟩ := tpGet tpu hx
      obtain ⟨eb0, rfl, ee0⟩ := tp_ev te
      have he10 := hlt e (List.mem_of_getElem? he)
      have hi := (List.getElem?_eq_some_iff.mp hx).1
      rw [drop_at he] at ea
      have lw0 := tw.length
      rw [List.length_map, List.length_reverse] at lw0
      walk_at "xx"
      refine b_lenL (lst_of eD2) ?_
      walk_at "xx"
      cases st with
      | nil =>
        rw [lw0]
        walk_at "xx"
        have e2 : acc S m ps [([], [])] = false := ea.symm
        rw [e2] at q
        exact q H' s3
      | cons nd st =>
        obtain ⟨c, b⟩ := nd
        have g := hg (c, b) List.mem_cons_self
        have lc : c.length ≤ S.length := small_nodup g.un g.lt
        have lb : b.length ≤ S.length := small_nodup g.bun g.blt
        rw [List.reverse_cons, List.map_append] at tw
        obtain ⟨ws', x', rfl, tw1, tx⟩ := tp_snoc_inv tw
        obtain ⟨xa, xc, xb, rfl, ex1, ex2, ex3⟩ := tp_nd tx
        have lw : ws'.length ≤ 60 * i := by
          have := tw1.length
          rw [List.length_map, List.length_reverse] at this
          simp at ls
          omega
        refine iteI (fun z => ?_) (fun _ => ?_)
        · rw [lw0, List.length_cons] at z
          omega
        walk_at "xx"
        refine m_bm0 ?_
        walk_at "xx"
        refine m_ty (lst_of eD2) ?_
        refine m_pop eD2 fun H4 c4 e4 => ?_
        have nx1 : xa ≠ D := ne_of ex1 eD2 (fun z => nomatch z)
        have s4 : Same H H4 := c4.same s3 nD
        have ex4 := c4.at ex1 nx1
        have exc := c4.at ex2 (ne_of ex2 eD2 (fun z => nomatch z))
        have exb := c4.at ex3 (ne_of ex3 eD2 (fun z => nomatch z))
        walk_at "xx"
        refine k_l (s4.seq hu) ?_
        refine c_sel (p := fun s => s.contains e) (F := setD) (G := setD) (.inl ⟨rfl, s4.seq hu⟩) (tu.tk s4.tk) (by omega) (fun x => rfl) (fun s u H5 N hs t s5 hN => ?_) (fun s u H5 N hs hp t s5 hN => ?_) (fun D5 H5 ys nD5 s5 e5 t5 => ?_)
        · walk_at "xx"
          refine ⟨evD e, s.map evD, (te.tk (s4.trans s5).tk).dp, t.dp, evD_sh _, setD_sh _, ?_⟩
          rw [any_evs hS.sz hs he10]
          walk_at "xx"
          exact hN H5 (Same.refl _)
        · walk_at "xx"
          exact hN u H5 (Same.refl _) t
        · have l5 := t5.length
          rw [List.length_map] at l5
          walk_at "xx"
          refine b_lenL (lst_of e5) ?_
          walk_at "xx"
          have S5 := s4.trans s5
          refine iteI (fun z => ?_) (fun z => ?_)
          · walk_at "xx"
            have e2 : acc S m ps [([], [])] = false := by
              rw [← ea]
              have : hol S e = [] := hol_nil.mp (List.length_eq_zero_iff.mp (by omega))
              simp [acc, this]
            rw [e2] at q
            exact q H5 S5
          · have hne : hol S e ≠ [] := fun h => z (by
              have : S.filter (fun s => s.contains e) = [] := hol_nil.mpr h
              rw [this, List.length_nil] at l5
              omega)
            have exc5 := s5 _ _ exc
            walk_at "xx"
            refine c_sel (p := holds S e) (F := fun k => PyData.int (nI k)) (G := fun k => PyData.int (nI k)) (.inr ⟨rfl, tup_of exc5⟩) (nats_tp c) (by omega) (fun x => rfl) (fun k u H6 N hk t s6 hN => ?_) (fun k u H6 N hk hp t s6 hN => ?_) (fun D6 H6 ys6 nD6 s6 e6 t6 => ?_)
            · cases t
              have hk := g.lt k hk
              obtain ⟨us', x', bb, vs, hu', gx, rfl, eb2, tb2⟩ := hS.at hk
              have S6 := S5.trans s6
              walk_at "xx"
              refine o_ixL (S6.seq hu') (atI_nat gx) ?_
              walk_at "xx"
              refine ⟨evD e, _, (te.tk S6.tk).dp, (Tp.tup (S6 _ _ eb2) (tb2.tk S6.tk)).dp, evD_sh _, setD_sh _, ?_⟩
              rw [holds_any hS.sz hk he10]
              walk_at "xx"
              exact hN H6 (Same.refl _)
            · walk_at "xx"
              exact hN u H6 (Same.refl _) t
            · have l6 := t6.length
              rw [List.length_map] at l6
              walk_at "xx"
              refine b_lenL (lst_of e6) ?_
              walk_at "xx"
              have S6 := S5.trans s6
              refine iteD (fun y => ?_) (fun y => ?_)
              · walk_at "xx"
                have e2 : acc S m ps [([], [])] = false := by
                  rw [← ea]
                  have : hit S e c = true := by
                    cases w : hit S e c with
                    | true => rfl
                    | false =>
                      rw [hit_nil.mpr w, List.length_nil] at l6
                      omega
                  simp [acc, hne, this]
                rw [e2] at q
                exact q H6 S6
              · have hh : hit S e c = false := hit_nil.mp (List.length_eq_zero_iff.mp (by omega))
                have ea2 : acc S m (ps.drop (i + 1)) (push S m e c b st) = acc S m ps [([], [])] := by
                  rw [← ea]
                  simp [acc, hne, hh]
                have exc6 := s6 _ _ exc5
                have e46 := s6 _ _ (s5 _ _ e4)
                have tw6 := tw1.tk ((c4.tk eD2).trans (s5.tk.trans s6.tk))
                walk_at "xx"
                refine b_lenT (tup_of exc6) ?_
                walk_at "xx"
                rw [List.length_map]
                refine iteD (fun hcm => ?_) (fun hcm => ?_)
                · have hcm : (c.length : Int) < m := hcm
                  walk_at "xx"
                  refine ⟨a, _, xc, xb, S, e, c, b, rfl, hS.same S6, te.tk S6.tk, he10, exc6, s6 _ _ (s5 _ _ exb), by omega, by omega, fun p us2 H7 s7 np7 e7 t7 => ?_⟩
                  walk_at "xx"
                  rename_i p8 H8 n8 s8 e8
                  have l7 := t7.length
                  rw [List.length_map] at l7
                  have l8 := br_len (c := c) (ks := hol S e) (b := b)
                  have l9 : (hol S e).length ≤ S.length := by
                    have := List.length_filter_le (holds S e) (List.range S.length)
                    rwa [List.length_range] at this
                  have e48 := s8 _ _ (s7 _ _ e46)
                  have S8 := S6.trans (s7.trans s8)
                  refine o_addL e48 e8 ?_ fun D9 H9 n9 s9 e9 => ?_
                  · have : ws'.length + us2.reverse.length < sizeLine := smallM (by rw [List.length_reverse]; omega)
                    omega
                  · walk_at "xx"
                    have hX : br (hol S e) c b ++ st = push S m e c b st := by
                      unfold push
                      rw [if_pos (by omega)]
                    refine ⟨D9, _, _, _, _, _, push S m e c b st, rfl, S8.trans s9, S8.free n9, ⟨⟨_, e9, ?_⟩, push_good hg hh, ?_⟩, ea2⟩
                    · rw [← hX, List.reverse_append, List.map_append]
                      exact tpApp (tw6.tk (s7.tk.trans (s8.tk.trans s9.tk))) (tp_rev (t7.tk (s8.tk.trans s9.tk)))
                    · rw [← hX, List.length_append]
                      simp at ls
                      omega
                · have hcm : ¬ (c.length : Int) < m := hcm
                  walk_at "xx"
                  have hX : push S m e c b st = st := by
                    unfold push
                    rw [if_neg (by omega)]
                  rw [hX] at ea2
                  refine ⟨D, _, _, _, _, _, st, rfl, S6, nD, ⟨⟨_, e46, tw6⟩, fun nd h => hg nd (List.mem_cons_of_mem _ h), ?_⟩, ea2⟩
                  simp at ls
                  omega
    · obtain ⟨D, _, _, _, _, _, st, rfl, s3, nD, hst, ea⟩ := p
      obtain ⟨⟨ws, eD2, tw⟩, hg, ls⟩ := hst
      have lw0 := tw.length
      rw [List.length_map, List.length_reverse] at lw0
      walk_at "xx"
      refine b_lenL (lst_of eD2) ?_
      walk_at "xx"
      rw [lpu, List.drop_of_length_le (Nat.le_refl _)] at ea
      have e2 : decide (V.int (ws.length : Int) = V.int 0) = acc S m ps [([], [])] := by
        rw [← ea, dI, lw0]
        cases st with
        | nil => rfl
        | cons x y =>
          rw [decide_eq_false (by rw [List.length_cons]; omega)]
          rfl
      have q2 := q H' s3
      rw [← e2] at q2
      exact q2
end
end K39
-- WIDE
namespace K39
open PySem PySem.Spec PyProof.Rows L2 Wy WN WQ WS WC WE WX WXD
open W6 (uu)

section
variable {P : Program} {w : World} {K : PySem.W.Frag} {mg : Str → Option Value} {base : Heap}
theorem ch_len {m : Nat} : ∀ n, (ch m n).length ≤ 2 ^ n
  | 0 => by simp [ch]
  | n + 1 => by
    have h1 := ch_len (m := m) n
    have h2 := List.length_filter_le (fun c : List Nat => decide (c.length < m)) (ch m n)
    unfold ch
    rw [List.length_append, List.length_map, Nat.pow_succ]
    omega
theorem hit_dec {S : List (List Nat)} {e : Nat} {c : List Nat} {n : Nat} (h : n = (c.filter (holds S e)).length) : decide ((n : Int) = 0) = !hit S e c := by
  cases z : hit S e c with
  | false =>
    rw [hit_nil.mpr z, List.length_nil] at h
    exact decide_eq_true (by omega)
  | true =>
    refine decide_eq_false fun w => ?_
    have := hit_nil.mp (List.length_eq_zero_iff.mp (show (c.filter (holds S e)).length = 0 by omega))
    rw [z] at this
    exact absurd this (by decide)
theorem all_hit {S : List (List Nat)} {es c : List Nat} (m : ∀ e, e ∈ es ↔ hol S e ≠ []) (h : es.filter (fun e => !hit S e c) = []) : ∀ e, hol S e ≠ [] → hit S e c = true := fun e he => by
  have := List.filter_eq_nil_iff.mp h e ((m e).mpr he)
  simpa using this
theorem hit_all {S : List (List Nat)} {es c : List Nat} (m : ∀ e, e ∈ es ↔ hol S e ≠ []) (h : ∀ e, hol S e ≠ [] → hit S e c = true) : es.filter (fun e => !hit S e c) = [] :=
  List.filter_eq_nil_iff.mpr fun e he => by rw [h e ((m e).mp he)]; decide
theorem ch_succ {m n : Nat} : ch m (n + 1) = ch m n ++ ((ch m n).filter (fun c => decide (c.length < m))).map (· ++ [n]) := rfl
theorem ch_le {m n : Nat} {c : List Nat} (h : c ∈ ch m n) : c.length ≤ n := by
  induction n generalizing c with
  | zero => simp [ch] at h; subst h; simp
  | succ n ih =>
    rw [ch_succ] at h
    rcases List.mem_append.1 h with h | h
    · exact Nat.le_succ_of_le (ih h)
    · obtain ⟨d, hd, rfl⟩ := List.mem_map.1 h
      have := ih (List.mem_filter.1 hd).1
      rw [List.length_append, List.length_singleton]
      omega
def spCan (K : PySem.W.Frag) : Sp := fun vs H Q _ => ∃ (a : Addr) (S : List (List Nat)) (m : Nat), vs = [.ref a, .int (m : Int)] ∧ SetsAt K H a S ∧ S.length < 7 ∧ ∀ b H', Same H H' → (b = true ↔ can S m) → Q (.bl b) H'
theorem k_law_can_hold (T : Tx K mg) : C8.Cal P w K mg base 2 "_law_can_hold" (spCan K) [] := by
  refine cal_of (N := n_law_can_hold) T.d_law_can_hold sc_law_can_hold (fun _ _ F => F.bindsN fun _ _ _ _ _ _ us hl => match us, hl with | [_, _], _ => rfl) (fun vs H Q E h => ?_) (fun f cdv A outer s H vs Q E hr h => ?_)
  · obtain ⟨_, _, _, rfl, _⟩ := h
    rfl
  · obtain ⟨a, S, m, rfl, hS, l7, q⟩ := h
    refine ⟨_, (pss_cons (ps_asg (C8.pe_c (k_law_all T) hr (by first | decide | omega) (by rfl) (pa_cons (pv 0) pa_nil)) (pg_name (i := 2) sc_law_can_hold.nd rfl (Or.inl rfl))) (pss_cons (ps_asg (pe_lst (pa_cons (pe_tup pa_nil) pa_nil)) (pg_name (i := 3) sc_law_can_hold.nd rfl (Or.inl rfl))) (pss_cons (ps_for PassesOwn.never rfl (pi_range1 (by rfl) T.z_range (pa_cons (pe_callB (call_len2 : CallR _ _ (rLn K)) (by rfl) T.z_len (by decide +kernel) (pa_cons (pv 0) pa_nil)) pa_nil)) (pg_name (i := 4) sc_law_can_hold.nd rfl (Or.inr rfl)) (pss_one (ps_asg (pe_op op_add3 (pv 3) (pe_lc (own := [("choice", 5)]) (g := gName 5) (tt := tTest _) (by rfl) sc_law_can_hold.nd (pi_list (pv 3) : PI _ _ _ (iList K _)) (blkOk_by (own := [("choice", 5)]) (N := n_law_can_hold) (sc := defScope s_law_can_hold) (by decide +kernel)) (fun _ _ _ _ _ => pg_name (i := 5) sc_law_can_hold.nd rfl (Or.inl rfl)) (fun _ _ _ _ _ => (pts_one (pt_cmpR op_lt (pe_callB (call_len2 : CallR _ _ (rLn K)) (by rfl) T.z_len (by decide +kernel) (pa_cons (pv 5) pa_nil)) (pv 1) (nomark _)))) (fun _ _ _ _ _ => (pe_op (op_catA : OpR _ _ (rCatA K)) (pv 5) (pe_tup (pa_cons (pv 4) pa_nil)))))) (pg_name (i := 3) sc_law_can_hold.nd rfl (Or.inl rfl))))) (pss_cons (ps_for PassesOwn.never rfl (pi_list (pv 3) : PI _ _ _ (iList K _)) (pg_name (i := 5) sc_law_can_hold.nd rfl (Or.inr rfl)) (pss_one (ps_if (pt_cmpR (op_eq2 hr.units : OpR _ _ (rEq2 K)) (pe_callB (call_len2 : CallR _ _ (rLn K)) (by rfl) T.z_len (by decide +kernel) (pa_cons (pe_lc (own := [("event", 6)]) (g := gName 6) (tt := tTest _) (by rfl) sc_law_can_hold.nd (pi_list (pv 2) : PI _ _ _ (iList K _)) (blkOk_by (own := [("event", 6)]) (N := n_law_can_hold) (sc := defScope s_law_can_hold) (by decide +kernel)) (fun _ _ _ _ _ => pg_name (i := 6) sc_law_can_hold.nd rfl (Or.inr rfl)) (fun _ _ _ _ _ => (pts_one (pt_cmpR (op_eq2 hr.units : OpR _ _ (rEq2 K)) (pe_callB (call_len2 : CallR _ _ (rLn K)) (by rfl) T.z_len (by decide +kernel) (pa_cons (pe_lc (own := [("k", 4)]) (g := gName 4) (tt := tTest _) (by rfl) sc_law_can_hold.nd (pi_tup (pv 5) : PI _ _ _ (iTup K _)) (blkOk_by (own := [("k", 4)]) (N := n_law_can_hold) (by kernel_rfl)) (fun _ _ _ _ _ => pg_name (i := 4) sc_law_can_hold.nd rfl (Or.inl rfl)) (fun _ _ _ _ _ => (pts_one (pt_cmpR (WXD.op_inT (WP.room65 hr) : OpR _ _ (WXD.rInT K false)) (pv 6) (pe_ix (ix_seq : IxR _ (rIx K)) (pv 0) (pv 4) (fun _ _ => rfl)) (by rfl)))) (fun _ _ _ _ _ => (pv 4))) pa_nil)) pe_int (nomark _)))) (fun _ _ _ _ _ => (pv 6))) pa_nil)) pe_int (nomark _)) (pss_one (ps_ret pe_bl)) pss_nil))) (pss_one (ps_ret pe_bl)))))), ?_⟩
    obtain ⟨us, hu, tu⟩ := hS.ex
    have lu : us.length = S.length := by have := tu.length; rwa [List.length_map] at this
    walk_at "xx"
    refine ⟨a, S, rfl, hS, fun ev H1 eus es s1 n1 e1 t1 m1 h1 l1 => ?_⟩
    walk_at "xx"
    rename_i p0 H2 n2 s2 e2 D0 H3 n3 s3 e3
    have S3 := s1.trans (s2.trans s3)
    refine b_lenL (S3.seq hu) ?_
    walk_at "xx"
    have ev3 := s3 _ _ (s2 _ _ e1)
    have evH := t1.tk (s2.trans s3).tk
    refine f_range (fun i σ H' => ∃ (D : Addr) (x1 x2 x3 : Option V) (ws : List V), σ = [some (.ref a), some (.int m), some (.ref ev), some (.ref D), x1, x2, x3] ∧ Same H3 H' ∧ H' D = some (.lst ws) ∧ TpAll H' ws ((ch m i).map nT))
      ⟨D0, _, _, _, [.ref p0], rfl, Same.refl _, e3, .cons (nats_tup (c := []) (s3 _ _ e2)) .nil⟩ (fun i σ H' hi p => ?_) (fun σ H4 p => ?_)
    · obtain ⟨D, x1, x2, x3, ws, rfl, s4, e4, t4⟩ := p
      have hi : i < S.length := by omega
      have ei : (0 : Int) + (i : Int) = (i : Int) := by omega
      have lc := ch_len (m := m) i
      have l64 : 2 ^ i ≤ 64 := Nat.pow_le_pow_right (n := 2) (by decide) (show i ≤ 6 by omega)
      walk_at "xx"
      refine c_sel (p := fun c => decide (c.length < m)) (F := nT) (G := fun c => nT (c ++ [i])) (.inl ⟨rfl, lst_of e4⟩) t4 (by omega) (fun x => rfl) (fun c u H5 N hc t s5 hN => ?_) (fun c u H5 N hc hp t s5 hN => ?_) (fun D5 H5 ys n5 s5 e5 t5 => ?_)
      · obtain ⟨ca, rfl, ec⟩ := tup_nats t
        walk_at "xx"
        refine b_lenT (tup_of ec) ?_
        walk_at "xx"
        rw [List.length_map]
        have e6 : decide ((c.length : Int) < (m : Int)) = decide (c.length < m) := by
          by_cases z : c.length < m
          · rw [decide_eq_true z, decide_eq_true (by omega)]
          · rw [decide_eq_false z, decide_eq_false (by omega)]
        rw [e6]
        exact hN H5 (Same.refl _)
      · obtain ⟨ca, rfl, ec⟩ := tup_nats t
        have lc2 := (ch_ok hc).1
        have lc3 : c.length ≤ 6 := by
          have := ch_le hc
          omega
        walk_at "xx"
        rename_i p6 H6 n6 s6 e6
        rw [ei] at e6
        refine WO.o_catT (s6 _ _ ec) e6 (cat_sz (c := c) (by omega)) fun p7 H7 s7 e7 => ?_
        have e7 : H7 p7 = some (.tup ((c ++ [i]).map nV)) := by rw [← nV_snoc]; exact e7
        exact hN _ H7 (s6.trans s7) (nats_tup e7)
      · have ly := t5.length
        rw [List.length_map] at ly
        have l5 := List.length_filter_le (fun c : List Nat => decide (c.length < m)) (ch m i)
        have lw := t4.length
        rw [List.length_map] at lw
        walk_at "xx"
        refine o_addL (s5 _ _ e4) e5 ?_ fun D6 H6 n6 s6 e6 => ?_
        · have : ws.length + ys.length < sizeLine := small1000' (by omega)
          omega
        walk_at "xx"
        refine ⟨D6, _, _, _, _, rfl, s4.trans (s5.trans s6), e6, ?_⟩
        have ek : (ch m (i + 1)).map nT = (ch m i).map nT ++ ((ch m i).filter (fun c => decide (c.length < m))).map (fun c => nT (c ++ [i])) := by
          rw [ch_succ, List.map_append, List.map_map]
          rfl
        rw [ek]
        exact tpApp (t4.tk (s5.trans s6).tk) (t5.tk s6.tk)
    · obtain ⟨D, x1, x2, x3, ws, rfl, s4, e4, t4⟩ := p
      walk_at "xx"
      have en : ((us.length : Int)).toNat = S.length := by omega
      rw [en] at t4
      have S4 := S3.trans s4
      have ev4 := s4 _ _ ev3
      have te4 := evH.tk s4.tk
      have lws := t4.length
      rw [List.length_map] at lws
      refine f_list (xs := ws) (fun i σ H' => ∃ (x1 x2 x3 : Option V), σ = [some (.ref a), some (.int m), some (.ref ev), some (.ref D), x1, x2, x3] ∧ Same H4 H' ∧ ∀ c ∈ (ch m S.length).take i, ¬ ∀ e, hol S e ≠ [] → hit S e c = true)
        ⟨_, _, _, rfl, Same.refl _, fun c h => absurd h (by simp)⟩ (fun i σ H' hi p => ?_) (fun i x σ H' hx p => ?_) (fun σ H' p => ?_)
      · obtain ⟨_, _, _, rfl, s5, n5⟩ := p
        exact lst_of (s5 _ _ e4)
      · obtain ⟨_, _, _, rfl, s5, n5⟩ := p
        obtain ⟨c, hc, tc⟩ := tpGet t4 hx
        obtain ⟨ca, rfl, ec⟩ := tup_nats tc
        have cm := List.mem_of_getElem? hc
        have cl := ch_le cm
        have clt := (ch_ok cm).2
        walk_at "xx"
        refine c_sel (p := fun e => !hit S e c) (F := evD) (G := evD) (.inl ⟨rfl, lst_of (s5 _ _ ev4)⟩) (te4.tk s5.tk) (by omega) (fun x => rfl) (fun e u H5 N he t s6 hN => ?_) (fun e u H5 N he hp t s6 hN => ?_) (fun D6 H6 ys n6 s6 e6 t6 => ?_)
        · have S5 := S4.trans (s5.trans s6)
          have ec5 := s6 _ _ (s5 _ _ ec)
          have he10 := h1 e he
          walk_at "xx"
          refine c_sel (p := holds S e) (F := fun k => PyData.int (nI k)) (G := fun k => PyData.int (nI k)) (.inr ⟨rfl, tup_of ec5⟩) (nats_tp c) (by omega) (fun x => rfl) (fun k u2 H7 N hk t2 s7 hN => ?_) (fun k u2 H7 N hk hp t2 s7 hN => ?_) (fun D7 H7 ys7 nD7 s7 e7 t7 => ?_)
          · cases t2
            have hk := clt k hk
            obtain ⟨us', x', bb, vs, hu', gx, rfl, eb2, tb2⟩ := hS.at hk
            have S7 := S5.trans s7
            walk_at "xx"
            refine o_ixL (S7.seq hu') (atI_nat gx) ?_
            walk_at "xx"
            refine ⟨evD e, _, (t.tk s7.tk).dp, (Tp.tup (S7 _ _ eb2) (tb2.tk S7.tk)).dp, evD_sh _, setD_sh _, ?_⟩
            rw [holds_any hS.sz hk he10]
            walk_at "xx"
            exact hN H7 (Same.refl _)
          · walk_at "xx"
            exact hN u2 H7 (Same.refl _) t2
          · have l7 := t7.length
            rw [List.length_map] at l7
            walk_at "xx"
            refine b_lenL (lst_of e7) ?_
            walk_at "xx"
            rw [dI, hit_dec l7]
            exact hN H7 s7
        · walk_at "xx"
          exact hN u H5 (Same.refl _) t
        · have l6 := t6.length
          rw [List.length_map] at l6
          walk_at "xx"
          refine b_lenL (lst_of e6) ?_
          walk_at "xx"
          have S6 := S4.trans (s5.trans s6)
          refine iteI (fun z => ?_) (fun z => ?_)
          · walk_at "xx"
            refine q true H6 S6 ⟨fun _ => can_ch.mpr ⟨c, cm, ?_⟩, fun _ => rfl⟩
            exact all_hit m1 (List.length_eq_zero_iff.mp (by omega))
          · walk_at "xx"
            refine ⟨_, _, _, rfl, s5.trans s6, fun c' hc' => ?_⟩
            rw [List.take_add_one, hc] at hc'
            rcases List.mem_append.mp hc' with hc' | hc'
            · exact n5 c' hc'
            · have : c' = c := by simpa using hc'
              subst this
              intro hall
              exact z (by rw [l6, hit_all m1 hall]; rfl)
      · obtain ⟨_, _, _, rfl, s5, n5⟩ := p
        rw [lws, List.take_of_length_le (Nat.le_refl _)] at n5
        walk_at "xx"
        refine q false H' (S4.trans s5) ⟨fun h => absurd h (by decide), fun h => ?_⟩
        obtain ⟨c, hc, hh⟩ := can_ch.mp h
        exact absurd hh (n5 c hc)
end
end K39
-- WIDE
namespace K39
open PySem PySem.Spec PyProof.Rows L2 Wy WN WQ WS WC WE WX WXD
open W6 (uu)

section
variable {P : Program} {w : World} {K : PySem.W.Frag} {mg : Str → Option Value} {base : Heap}
/-- the sets as a list of the own heap -/
structure SetsH (H : Hp) (a : Addr) (S : List (List Nat)) : Prop where
  ex : ∃ us, H a = some (.lst us) ∧ TpAll H us (S.map setD)
  len : S.length ≤ 12
  sz : ∀ s ∈ S, s.length ≤ 5 ∧ ∀ e ∈ s, e < 10
theorem SetsH.at' {K : PySem.W.Frag} {H : Hp} {a : Addr} {S : List (List Nat)} (h : SetsH H a S) : SetsAt K H a S := by
  obtain ⟨us, e, t⟩ := h.ex
  exact ⟨⟨us, lst_of e, t⟩, h.len, h.sz⟩
theorem SetsH.keep {H H' : Hp} {a h d : Addr} {S : List (List Nat)} (x : SetsH H a S) (hh : HandAt H h d) (k : Keep h H H') (ne : a ≠ h) : SetsH H' a S := by
  obtain ⟨us, e, t⟩ := x.ex
  exact ⟨⟨us, k.at e ne, t.tk (hh.keep_tk k)⟩, x.len, x.sz⟩
def spPaper : Sp := fun vs H Q _ => ∃ (h d a : Addr) (S : List (List Nat)) (m : Nat), vs = [.ref h, .ref a, .int (m : Int)] ∧ HandAt H h d ∧ SetsH H a S ∧ a ≠ h ∧
  ∀ v H', Keep h H H' → HandAt H' h d → ((v = .non ∧ (S.length < 7 → can S m)) ∨ ∃ p us ps, v = .ref p ∧ H p = none ∧ p ≠ h ∧ H' p = some (.lst us) ∧ TpAll H' us ((ps : List Nat).map evD) ∧ (∀ e ∈ ps, e < 10) ∧ ps.length ≤ 900 ∧ ¬ can S m) → Q v H'
theorem k_law_paper (T : Tx K mg) : C8.Cal P w K mg base 2 "_law_paper" spPaper [] := by
  refine cal_of (N := n_law_paper) T.d_law_paper sc_law_paper (fun _ _ F => F.bindsN fun _ _ _ _ _ _ us hl => match us, hl with | [_, _, _], _ => rfl) (fun vs H Q E h => ?_) (fun f cdv A outer s H vs Q E hr h => ?_)
  · obtain ⟨_, _, _, _, _, rfl, _⟩ := h
    rfl
  · obtain ⟨h, d, a, S, m, rfl, hh, hS, nah, q⟩ := h
    refine ⟨_, (pss_cons (ps_asg (pe_lst pa_nil) (pg_name (i := 3) sc_law_paper.nd rfl (Or.inl rfl))) (pss_cons (ps_asg (C8.pe_c (k_law_all T) hr (by first | decide | omega) (by rfl) (pa_cons (pv 1) pa_nil)) (pg_name (i := 4) sc_law_paper.nd rfl (Or.inl rfl))) (pss_cons (ps_asg (pe_lst (pa_cons (pe_tup (pa_cons (pe_tup pa_nil) (pa_cons (pe_tup pa_nil) pa_nil))) pa_nil)) (pg_name (i := 5) sc_law_paper.nd rfl (Or.inl rfl))) (pss_cons (ps_for PassesOwn.never rfl (pi_range1 (by rfl) T.z_range (pa_cons pe_int pa_nil)) (pg_name (i := 6) sc_law_paper.nd rfl (Or.inl rfl)) (pss_cons (ps_if (pt_cmpR (op_eq2 hr.units : OpR _ _ (rEq2 K)) (pe_callB (call_len2 : CallR _ _ (rLn K)) (by rfl) T.z_len (by decide +kernel) (pa_cons (pv 5) pa_nil)) pe_int (nomark _)) (pss_one (ps_ret (pv 3))) pss_nil) (pss_cons (ps_asg (pe_bm0 PySem.F.plainAttrs_list PySem.F.slot_list_pop PySem.F.type_list_pop mt_pop (pv 5) : PE _ _ (tBM0 K _ _ _)) (pg_tup (by rfl) (pgs_cons (pg_name (i := 7) sc_law_paper.nd rfl (Or.inr rfl)) (pgs_cons (pg_name (i := 8) sc_law_paper.nd rfl (Or.inl rfl)) pgs_nil)) : PG _ _ (gTup K _ _))) (pss_cons (ps_setLc (i := 10) (own := [("event", 9)]) (g := gName 9) (tt := tTest _) (by rfl) sc_law_paper.nd rfl rfl (sw_true rfl rfl rfl (by decide +kernel)) (pi_list (pv 4) : PI _ _ _ (iList K _)) (blkOk_by (own := [("event", 9)]) (N := n_law_paper) (sc := defScope s_law_paper) (by decide +kernel)) (fun _ _ _ _ _ => pg_name (i := 9) sc_law_paper.nd rfl (Or.inr rfl)) (fun _ _ _ _ _ => (pts_one (pt_cmpR (op_eq2 hr.units : OpR _ _ (rEq2 K)) (pe_callB (call_len2 : CallR _ _ (rLn K)) (by rfl) T.z_len (by decide +kernel) (pa_cons (pe_lc (own := [("k", 6)]) (g := gName 6) (tt := tTest _) (by rfl) sc_law_paper.nd (pi_tup (pv 7) : PI _ _ _ (iTup K _)) (blkOk_by (own := [("k", 6)]) (N := n_law_paper) (by kernel_rfl)) (fun _ _ _ _ _ => pg_name (i := 6) sc_law_paper.nd rfl (Or.inl rfl)) (fun _ _ _ _ _ => (pts_one (pt_cmpR (WXD.op_inT (WP.room65 hr) : OpR _ _ (WXD.rInT K false)) (pv 9) (pe_ix (ix_seq : IxR _ (rIx K)) (pv 1) (pv 6) (fun _ _ => rfl)) (by rfl)))) (fun _ _ _ _ _ => (pv 6))) pa_nil)) pe_int (nomark _)))) (fun _ _ _ _ _ => (pv 9))) (pss_cons (ps_if (pt_cmpR (op_eq2 hr.units : OpR _ _ (rEq2 K)) (pe_callB (call_len2 : CallR _ _ (rLn K)) (by rfl) T.z_len (by decide +kernel) (pa_cons (pv 10) pa_nil)) pe_int (nomark _)) (pss_one (ps_ret pe_non)) pss_nil) (pss_cons (ps_asg (pe_ix (ix_seq : IxR _ (rIx K)) (pv 10) (C8.pe_c (k_law_take T) hr (by first | decide | omega) (by rfl) (pa_cons (pv 0) (pa_cons (pe_callB (call_len2 : CallR _ _ (rLn K)) (by rfl) T.z_len (by decide +kernel) (pa_cons (pv 10) pa_nil)) pa_nil))) (fun _ _ => rfl)) (pg_name (i := 9) sc_law_paper.nd rfl (Or.inl rfl))) (pss_cons (ps_expr (pe_bm PySem.F.plainAttrs_list PySem.F.slot_list_append PySem.F.type_list_append mt_append (pv 3) (pa_cons (pv 9) pa_nil) : PE _ _ (tBM K _ _ _ _))) (pss_one (ps_if (pt_cmpR op_lt (pe_callB (call_len2 : CallR _ _ (rLn K)) (by rfl) T.z_len (by decide +kernel) (pa_cons (pv 7) pa_nil)) (pv 2) (nomark _)) (pss_one (ps_asg (pe_op op_add3 (pv 5) (pe_revL (C8.pe_c (k_law_branches T) hr (by first | decide | omega) (by rfl) (pa_cons (pv 1) (pa_cons (pv 9) (pa_cons (pv 7) (pa_cons (pv 8) pa_nil))))) : PE _ _ (tRevL K _))) (pg_name (i := 5) sc_law_paper.nd rfl (Or.inl rfl)))) pss_nil))))))))) (pss_one (ps_ret pe_non)))))), ?_⟩
    have hl := hS.len
    walk_at "xx"
    rename_i p H0 np s0 e0
    have nph : p ≠ h := Ne.symm (hh.new np).1
    refine ⟨a, S, rfl, hS.at'.same s0, fun ev H1 eus es s1 n1 e1 t1 m1 h1 l1 => ?_⟩
    walk_at "xx"
    rename_i t1' Ha na sa ea t2 Hb nb_ sb eb t3 Hc nc sc ec D0 H2 nD sd eD
    have s12 : Same H1 H2 := ((sa.trans sb).trans sc).trans sd
    have S2 : Same H H2 := s0.trans (s1.trans s12)
    have nD1 : H1 D0 = none := ((sa.trans sb).trans sc).free nD
    have nev : H ev = none := s0.free n1
    have ne_ep : ev ≠ p := fun z => by rw [z, e0] at n1; cases n1
    refine f_range (fun i σ H' => ∃ (D : Addr) (x1 x2 x3 x4 x5 : Option V) (ws : List V) (ps : List Nat) (st : List Node), σ = [some (.ref h), some (.ref a), some (.int m), some (.ref p), some (.ref ev), some (.ref D), x1, x2, x3, x4, x5] ∧ Keep h H H' ∧ HandAt H' h d ∧ H' ev = some (.lst eus) ∧ TpAll H' eus (es.map evD) ∧
        H' p = some (.lst ws) ∧ TpAll H' ws (ps.map evD) ∧ (∀ e ∈ ps, e < 10) ∧ ps.length = i ∧ H D = none ∧ D ≠ p ∧ D ≠ ev ∧ StkAt S m H' D st (1 + 60 * i) ∧ WX.Inv S m st ∧ (S.length < 7 → wt S.length st + i ≤ 64))
      ⟨D0, _, _, _, _, _, [], [], [([], [])], rfl, S2.keep, hh.same S2, s12 _ _ e1, t1.tk s12.tk, s12 _ _ (s1 _ _ e0), .nil, fun _ h => absurd h (by simp), rfl, s0.free (s1.free nD1), (fun z => by rw [z, s1 _ _ e0] at nD1; cases nD1), (fun z => by rw [z, e1] at nD1; cases nD1),
        ⟨⟨_, eD, .cons (nd_tp (sd _ _ ec) (sd _ _ (sc _ _ (sb _ _ ea))) (sd _ _ (sc _ _ eb))) .nil⟩, good_start, Nat.le_refl _⟩, inv_start, fun h7 => wt_start h7⟩ (fun i σ H' hi p => ?_) (fun σ H' p => ?_)
    · clear eD nD nD1 sd
      obtain ⟨D, _, _, _, _, _, ws, ps, st, rfl, kp, hh2, ev2, tev, ep, tp, hps, lps, nD, nDp, nDe, hst, inv, hwt⟩ := p
      obtain ⟨⟨vs, eD2, tw⟩, hg, ls⟩ := hst
      have lw0 := tw.length
      rw [List.length_map, List.length_reverse] at lw0
      have nDh : D ≠ h := Ne.symm (hh.new nD).1
      walk_at "xx"
      refine b_lenL (lst_of eD2) ?_
      walk_at "xx"
      cases st with
      | nil =>
        rw [lw0]
        walk_at "xx"
        exact q _ H' kp hh2 (.inr ⟨_, ws, ps, rfl, np, nph, ep, tp, hps, by omega, fun ⟨C, O⟩ => inv_end inv O⟩)
      | cons nd st =>
        obtain ⟨c, b⟩ := nd
        have g := hg (c, b) List.mem_cons_self
        have lc : c.length ≤ S.length := small_nodup g.un g.lt
        have lb : b.length ≤ S.length := small_nodup g.bun g.blt
        rw [List.reverse_cons, List.map_append] at tw
        obtain ⟨vs', x', rfl, tw1, tx⟩ := tp_snoc_inv tw
        obtain ⟨xa, xc, xb, rfl, ex1, ex2, ex3⟩ := tp_nd tx
        have lw : vs'.length ≤ 60 * i := by
          have := tw1.length
          rw [List.length_map, List.length_reverse] at this
          simp at ls
          omega
        refine iteI (fun z => ?_) (fun _ => ?_)
        · rw [lw0, List.length_cons] at z
          omega
        walk_at "xx"
        refine m_bm0 ?_
        walk_at "xx"
        refine m_ty (lst_of eD2) ?_
        refine m_pop eD2 fun H4 c4 e4 => ?_
        have ex4 := c4.at ex1 (ne_of ex1 eD2 (fun z => nomatch z))
        have exc := c4.at ex2 (ne_of ex2 eD2 (fun z => nomatch z))
        have exb := c4.at ex3 (ne_of ex3 eD2 (fun z => nomatch z))
        have k4 : Keep h H H4 := kp.chg c4 nD
        have hh4 := hh2.chg c4 (hh.new nD).1 (hh.new nD).2
        have ev4 := c4.at ev2 nDe.symm
        have tev4 := tev.tk (c4.tk eD2)
        have hS4 := hS.keep hh k4 nah
        have ep4 := c4.at ep nDp.symm
        have tp4 := tp.tk (c4.tk eD2)
        have tw4 := tw1.tk (c4.tk eD2)
        walk_at "xx"
        refine c_sel (p := fun e => !hit S e c) (F := evD) (G := evD) (.inl ⟨rfl, lst_of ev4⟩) tev4 (by omega) (fun x => rfl) (fun e u H5 N he t s6 hN => ?_) (fun e u H5 N he hp t s6 hN => ?_) (fun D6 H6 ys n6 s6 e6 t6 => ?_)
        · have ec5 := s6 _ _ exc
          have he10 := h1 e he
          walk_at "xx"
          refine c_sel (p := holds S e) (F := fun k => PyData.int (nI k)) (G := fun k => PyData.int (nI k)) (.inr ⟨rfl, tup_of ec5⟩) (nats_tp c) (by omega) (fun x => rfl) (fun k u2 H7 N hk t2 s7 hN => ?_) (fun k u2 H7 N hk hp t2 s7 hN => ?_) (fun D7 H7 ys7 nD7 s7 e7 t7 => ?_)
          · cases t2
            have hk := g.lt k hk
            obtain ⟨us', x', bb, vs, hu', gx, rfl, eb2, tb2⟩ := (hS4.at' (K := K)).at hk
            have S7 := s6.trans s7
            walk_at "xx"
            refine o_ixL (S7.seq hu') (atI_nat gx) ?_
            walk_at "xx"
            refine ⟨evD e, _, (t.tk s7.tk).dp, (Tp.tup (S7 _ _ eb2) (tb2.tk S7.tk)).dp, evD_sh _, setD_sh _, ?_⟩
            rw [holds_any hS.sz hk he10]
            walk_at "xx"
            exact hN H7 (Same.refl _)
          · walk_at "xx"
            exact hN u2 H7 (Same.refl _) t2
          · have l7 := t7.length
            rw [List.length_map] at l7
            walk_at "xx"
            refine b_lenL (lst_of e7) ?_
            walk_at "xx"
            rw [dI, hit_dec l7]
            exact hN H7 s7
        · walk_at "xx"
          exact hN u H5 (Same.refl _) t
        · have l6 := t6.length
          rw [List.length_map] at l6
          walk_at "xx"
          refine b_lenL (lst_of e6) ?_
          walk_at "xx"
          have k6 : Keep h H H6 := k4.trans s6.keep
          have hh6 := hh4.same s6
          refine iteI (fun z => ?_) (fun z => ?_)
          · walk_at "xx"
            exact q .non H6 k6 hh6 (.inl ⟨rfl, fun _ => good_can g (show ∀ e, hol S e ≠ [] → hit S e c = true from all_hit m1 (List.length_eq_zero_iff.mp (by omega)))⟩)
          · have hpos : 0 < ys.length := by omega
            walk_at "xx"
            refine b_lenL (lst_of e6) ?_
            walk_at "xx"
            refine ⟨h, d, (ys.length : Int), rfl, hh6, by omega, fun r H7 r0 r1 c7 hh7 => ?_⟩
            have nD6h : D6 ≠ h := Ne.symm (hh4.new n6).1
            have e7 := c7.at e6 nD6h
            have t7 := t6.tk (hh6.keep_tk c7.keep)
            have hr : r.toNat < (es.filter (fun e => !hit S e c)).length := by omega
            obtain ⟨u, gu, tu⟩ := tpAt (x := (es.filter (fun e => !hit S e c))[r.toNat]) t7 (List.getElem?_eq_getElem hr)
            have hm := List.mem_filter.mp (List.getElem_mem hr)
            generalize (es.filter (fun e => !hit S e c))[r.toNat] = e at *
            have he10 := h1 e hm.1
            have hne := (m1 e).mp hm.1
            have hhit : hit S e c = false := by simpa using hm.2
            obtain ⟨eb0, rfl, _⟩ := tp_ev tu
            have k47 : Keep h H4 H7 := s6.keep.trans c7.keep
            have ep7 := k47.at ep4 nph
            have hh7' := hh7
            have tk47 : TK H4 H7 := hh4.keep_tk k47
            have lws := tp.length
            rw [List.length_map] at lws
            refine o_ixL (lst_of e7) (atI_of (j := r.toNat) (by omega) gu) ?_
            walk_at "xx"
            refine m_ty (lst_of ep7) ?_
            walk_at "xx"
            refine m_app ep7 (small1000' (by omega)) fun H8 c8 e8 => ?_
            have tk78 : TK H7 H8 := c8.tk ep7
            have k8 : Keep h H H8 := (k6.trans c7.keep).chg c8 np
            have hh8 := hh7.chg c8 (hh.new np).1 (hh.new np).2
            have hS8 := hS.keep hh k8 nah
            have exc8 := tk78 _ _ (tk47 _ _ exc)
            have exb8 := tk78 _ _ (tk47 _ _ exb)
            have e48 := c8.at (k47.at e4 nDh) nDp
            have ev8 := c8.at (k47.at ev4 (Ne.symm (hh.new nev).1)) ne_ep
            have tps8 : TpAll H8 (ws ++ [.ref eb0]) ((ps ++ [e]).map evD) := by
              rw [List.map_append]
              exact tpSnoc ((tp4.tk tk47).tk tk78) (tu.tk tk78)
            have hps8 : ∀ x ∈ ps ++ [e], x < 10 := fun x hx => by
              rcases List.mem_append.mp hx with hx | hx
              · exact hps x hx
              · rw [List.mem_singleton.mp hx]
                exact he10
            have inv8 := inv_step inv hne hhit
            have wt8 : S.length < 7 → wt S.length (push S m e c b st) + (i + 1) ≤ 64 := fun h7 => by
              have h1 := hwt h7
              have h2 := wt_push (S := S) (m := m) (e := e) (c := c) (b := b) (st := st) hhit
              omega
            have tw8 := (tw4.tk tk47).tk tk78
            have tev8 := (tev4.tk tk47).tk tk78
            walk_at "xx"
            refine b_lenT (tup_of exc8) ?_
            walk_at "xx"
            rw [List.length_map]
            refine iteD (fun hcm => ?_) (fun hcm => ?_)
            · have hcm : (c.length : Int) < m := hcm
              walk_at "xx"
              refine ⟨a, eb0, xc, xb, S, e, c, b, rfl, hS8.at', tu.tk tk78, he10, exc8, exb8, by omega, by omega, fun p2 us2 H9 s9 np9 e9 t9 => ?_⟩
              walk_at "xx"
              rename_i p10 H10 n10 s10 e10
              have l7 := t9.length
              rw [List.length_map] at l7
              have l8 := br_len (c := c) (ks := hol S e) (b := b)
              have l9 : (hol S e).length ≤ S.length := by
                have := List.length_filter_le (holds S e) (List.range S.length)
                rwa [List.length_range] at this
              have s910 := s9.trans s10
              refine o_addL (s910 _ _ e48) e10 ?_ fun D11 H11 n11 s11 e11 => ?_
              · have : vs'.length + us2.reverse.length < sizeLine := small1000' (by rw [List.length_reverse]; omega)
                omega
              · walk_at "xx"
                have hX : br (hol S e) c b ++ st = push S m e c b st := by
                  unfold push
                  rw [if_pos (by omega)]
                have s811 := s910.trans s11
                have n811 : H8 D11 = none := s910.free n11
                have nDh2 : D11 ≠ h := Ne.symm (hh8.new n811).1
                refine ⟨D11, _, _, _, _, _, _, ps ++ [e], push S m e c b st, rfl, k8.trans s811.keep, hh8.same s811, s811 _ _ ev8, tev8.tk s811.tk, s811 _ _ e8, tps8.tk s811.tk, hps8, by rw [List.length_append, lps]; rfl, k8.free n811 nDh2, (fun z => by rw [z, e8] at n811; cases n811), (fun z => by rw [z, ev8] at n811; cases n811), ⟨⟨_, e11, ?_⟩, push_good hg hhit, ?_⟩, inv8, wt8⟩
                · rw [← hX, List.reverse_append, List.map_append]
                  exact tpApp (tw8.tk s811.tk) (tp_rev (t9.tk (s10.tk.trans s11.tk)))
                · rw [← hX, List.length_append]
                  simp at ls
                  omega
            · have hcm : ¬ (c.length : Int) < m := hcm
              walk_at "xx"
              have hX : push S m e c b st = st := by
                unfold push
                rw [if_neg (by omega)]
              rw [hX] at inv8 wt8
              refine ⟨D, _, _, _, _, _, _, ps ++ [e], st, rfl, k8, hh8, ev8, tev8, e8, tps8, hps8, by rw [List.length_append, lps]; rfl, nD, nDp, nDe, ⟨⟨_, e48, tw8⟩, fun nd h => hg nd (List.mem_cons_of_mem _ h), ?_⟩, inv8, wt8⟩
              simp at ls
              omega
    · obtain ⟨D, _, _, _, _, _, ws, ps, st, rfl, kp, hh2, ev2, tev, ep, tp, hps, lps, nD, nDp, nDe, hst, inv, hwt⟩ := p
      walk_at "xx"
      exact q .non H' kp hh2 (.inl ⟨rfl, fun h7 => by have := hwt h7; omega⟩)
end
end K39
-- WIDE
namespace K39
open PySem PySem.Spec PyProof.Rows L2 Wy WN WQ WS WC WE WX WXD
open W6 (uu)

section
variable {P : Program} {w : World} {K : PySem.W.Frag} {mg : Str → Option Value} {base : Heap}
/-- events each -/
def EvL (H : Hp) (us : List V) : Prop := ∀ v ∈ us, ∃ e < 10, Tp H v (evD e)
theorem EvL.tk {H H' : Hp} {us : List V} (x : EvL H us) (k : TK H H') : EvL H' us := fun v hv => by
  obtain ⟨e, h, t⟩ := x v hv
  exact ⟨e, h, t.tk k⟩
theorem EvL.sub {H : Hp} {us vs : List V} (x : EvL H us) (h : ∀ v ∈ vs, v ∈ us) : EvL H vs := fun v hv => x v (h v hv)
theorem EvL.cut {H : Hp} {us : List V} {lo hi : Option Int} (x : EvL H us) : EvL H (cutV us lo hi) := x.sub fun v hv => List.mem_of_mem_drop (List.mem_of_mem_take hv)
theorem EvL.app {H : Hp} {us vs : List V} (x : EvL H us) (y : EvL H vs) : EvL H (us ++ vs) := fun v hv => (List.mem_append.mp hv).elim (x v) (y v)
theorem EvL.rev {H : Hp} {us : List V} (x : EvL H us) : EvL H us.reverse := x.sub fun v hv => List.mem_reverse.mp hv
theorem EvL.one {H : Hp} {v : V} {e : Nat} (h : e < 10) (t : Tp H v (evD e)) : EvL H [v] := fun u hu => by
  rw [List.mem_singleton.mp hu]
  exact ⟨e, h, t⟩
theorem EvL.of {H : Hp} {us : List V} {ps : List Nat} (t : TpAll H us (ps.map evD)) (h : ∀ e ∈ ps, e < 10) : EvL H us := fun v hv => by
  obtain ⟨i, hi, e⟩ := List.getElem_of_mem hv
  obtain ⟨x, h1, h2⟩ := tpGet (i := i) t (by rw [List.getElem?_eq_getElem hi, e])
  exact ⟨x, h x (List.mem_of_getElem? h1), h2⟩
theorem EvL.ps {H : Hp} : ∀ {us : List V}, EvL H us → ∃ ps : List Nat, TpAll H us (ps.map evD) ∧ ∀ e ∈ ps, e < 10
  | [], _ => ⟨[], .nil, fun _ h => absurd h (by simp)⟩
  | v :: us, x => by
    obtain ⟨e, h, t⟩ := x v List.mem_cons_self
    obtain ⟨ps, h1, h2⟩ := EvL.ps (x.sub fun v hv => List.mem_cons_of_mem _ hv)
    exact ⟨e :: ps, .cons t h1, fun y hy => (List.mem_cons.mp hy).elim (fun q => q ▸ h) (h2 y)⟩
def EvPost (h d : Addr) (H : Hp) (Q : VK) : Prop := ∀ p H' us, Keep h H H' → HandAt H' h d → H p = none → p ≠ h → H' p = some (.lst us) → EvL H' us → us.length ≤ 3000 → Q (.ref p) H'
def spDrawn : Sp := fun vs H Q _ => ∃ (h d : Addr), vs = [.ref h] ∧ HandAt H h d ∧ ∀ p H' us, Keep h H H' → HandAt H' h d → H p = none → p ≠ h → H' p = some (.lst us) → EvL H' us → us.length ≤ 10 → Q (.ref p) H'
theorem k_law_drawn (T : Tx K mg) : C8.Cal P w K mg base 2 "_law_drawn" spDrawn [] := by
  refine cal_of (N := n_law_drawn) T.d_law_drawn sc_law_drawn (fun _ _ F => F.bindsN fun _ _ _ _ _ _ us hl => match us, hl with | [_], _ => rfl) (fun vs H Q E h => ?_) (fun f cdv A outer s H vs Q E hr h => ?_)
  · obtain ⟨h, d, rfl, _⟩ := h
    rfl
  · obtain ⟨h, d, rfl, hh, q⟩ := h
    refine ⟨_, (pss_one (ps_ret (pe_lc (own := [("k", 1)]) (g := gName 1) (tt := tYes) (by rfl) sc_law_drawn.nd (pi_range1 (by rfl) T.z_range (pa_cons (C8.pe_c (k_law_take T) hr (by first | decide | omega) (by rfl) (pa_cons (pv 0) (pa_cons pe_int pa_nil))) pa_nil)) (blkOk_by (own := [("k", 1)]) (N := n_law_drawn) (sc := defScope s_law_drawn) (by decide +kernel)) (fun _ _ _ _ _ => pg_name (i := 1) sc_law_drawn.nd rfl (Or.inl rfl)) (fun _ _ _ _ _ => pts_nil) (fun _ _ _ _ _ => (C8.pe_c (k_law_event T) hr (by first | decide | omega) (by rfl) (pa_cons (C8.pe_c (k_law_take T) hr (by first | decide | omega) (by rfl) (pa_cons (pv 0) (pa_cons pe_int pa_nil))) pa_nil)))))), ?_⟩
    walk_at "xx"
    refine ⟨h, d, 6, rfl, hh, by decide, fun r5 H5 r50 r51 c5 hh5 => ?_⟩
    walk_at "xx"
    refine c_range (fun D2 i H1 => Keep h H5 H1 ∧ HandAt H1 h d ∧ ∃ us, H1 D2 = some (.lst us) ∧ EvL H1 us ∧ us.length = i) (fun D2 H1 nD s1 e1 => ⟨s1.keep, hh5.same s1, [], e1, (fun _ h => absurd h (by simp)), rfl⟩) (fun D2 j H6 hj nD2 p => ?_) (fun D2 H6 nD2 p => ?_)
    · obtain ⟨k6, hh6, us2, e6, t6, l6⟩ := p
      have ne2 : D2 ≠ h := Ne.symm (hh5.new nD2).1
      walk_at "xx"
      refine ⟨rfl, ?_⟩
      walk_at "xx"
      refine ⟨h, d, 10, rfl, hh6, by decide, fun r7 H7 r70 r71 c7 hh7 => ?_⟩
      walk_at "xx"
      refine ⟨r7.toNat, by rw [Int.toNat_of_nonneg r70]; rfl, by omega, fun v H8 s8 t8 => ?_⟩
      have e8 := s8 _ _ (c7.at e6 ne2)
      refine c_out e8 (small1000' (by omega)) fun H9 c9 e9 => ⟨(k6.trans (c7.keep.trans s8.keep)).chg c9 nD2, (hh7.same s8).chg c9 (hh5.new nD2).1 (hh5.new nD2).2, us2 ++ [v], e9, ?_, by rw [List.length_append, l6]; rfl⟩
      exact (((t6.tk (hh6.keep_tk c7.keep)).tk s8.tk).tk (c9.tk e8)).app (EvL.one (by omega) (t8.tk (c9.tk e8)))
    · obtain ⟨k6, hh6, us2, e6, t6, l6⟩ := p
      have nh : D2 ≠ h := Ne.symm (hh5.new nD2).1
      exact q D2 H6 us2 (c5.keep.trans k6) hh6 (c5.keep.free nD2 nh) nh e6 t6 (by omega)
def spSpoilt : Sp := fun vs H Q _ => ∃ (h d p : Addr) (ws : List V), vs = [.ref h, .ref p] ∧ HandAt H h d ∧ H p = some (.lst ws) ∧ p ≠ h ∧ EvL H ws ∧ ws.length ≤ 900 ∧ 
  ∀ p H' us, Keep h H H' → HandAt H' h d → H p = none → p ≠ h → H' p = some (.lst us) → EvL H' us → us.length ≤ 3000 → Q (.ref p) H'
theorem k_law_spoilt (T : Tx K mg) : C8.Cal P w K mg base 3 "_law_spoilt" spSpoilt [] := by
  refine cal_of (N := n_law_spoilt) T.d_law_spoilt sc_law_spoilt (fun _ _ F => F.bindsN fun _ _ _ _ _ _ us hl => match us, hl with | [_, _], _ => rfl) (fun vs H Q E h => ?_) (fun f cdv A outer s H vs Q E hr h => ?_)
  · obtain ⟨_, _, _, _, rfl, _⟩ := h
    rfl
  · obtain ⟨h, d, p, ws, rfl, hh, ep, nph, evl, lw, q⟩ := h
    refine ⟨_, (pss_cons (ps_asg (C8.pe_c (k_law_take T) hr (by first | decide | omega) (by rfl) (pa_cons (pv 0) (pa_cons pe_int pa_nil))) (pg_name (i := 2) sc_law_spoilt.nd rfl (Or.inl rfl))) (pss_cons (ps_if (PW.pt (pw_or (pt_cmpR (op_eq2 hr.units : OpR _ _ (rEq2 K)) (pe_callB (call_len2 : CallR _ _ (rLn K)) (by rfl) T.z_len (by decide +kernel) (pa_cons (pv 1) pa_nil)) pe_int (nomark _)) (pw_or1 (pt_cmpR (op_eq2 hr.units : OpR _ _ (rEq2 K)) (pv 2) pe_int (nomark _))))) (pss_one (ps_ret (C8.pe_c (k_law_drawn T) hr (by first | decide | omega) (by rfl) (pa_cons (pv 0) pa_nil)))) pss_nil) (pss_cons (ps_asg (C8.pe_c (k_law_take T) hr (by first | decide | omega) (by rfl) (pa_cons (pv 0) (pa_cons (pe_callB (call_len2 : CallR _ _ (rLn K)) (by rfl) T.z_len (by decide +kernel) (pa_cons (pv 1) pa_nil)) pa_nil))) (pg_name (i := 3) sc_law_spoilt.nd rfl (Or.inl rfl))) (pss_cons (ps_if (pt_cmpR (op_eq2 hr.units : OpR _ _ (rEq2 K)) (pv 2) pe_int (nomark _)) (pss_one (ps_ret (pe_op op_add3 (pe_slice (sl_2 : SlR _ (rSl2 K)) (pv 1) po_none (po_some (pv 3))) (pe_slice (sl_2 : SlR _ (rSl2 K)) (pv 1) (po_some (pe_op op_add3 (pv 3) pe_int)) po_none)))) pss_nil) (pss_cons (ps_if (pt_cmpR (op_eq2 hr.units : OpR _ _ (rEq2 K)) (pv 2) pe_int (nomark _)) (pss_one (ps_ret (pe_op op_add3 (pe_op op_add3 (pe_slice (sl_2 : SlR _ (rSl2 K)) (pv 1) po_none (po_some (pv 3))) (pe_lst (pa_cons (pe_ix (ix_seq : IxR _ (rIx K)) (pv 1) (pv 3) (fun _ _ => rfl)) pa_nil))) (pe_slice (sl_2 : SlR _ (rSl2 K)) (pv 1) (po_some (pv 3)) po_none)))) pss_nil) (pss_cons (ps_if (pt_cmpR (op_eq2 hr.units : OpR _ _ (rEq2 K)) (pv 2) pe_int (nomark _)) (pss_one (ps_ret (pe_op op_add3 (pe_op op_add3 (pe_slice (sl_2 : SlR _ (rSl2 K)) (pv 1) po_none (po_some (pv 3))) (pe_revL (pe_slice (sl_2 : SlR _ (rSl2 K)) (pv 1) (po_some (pv 3)) (po_some (pe_op op_add3 (pv 3) pe_int))) : PE _ _ (tRevL K _))) (pe_slice (sl_2 : SlR _ (rSl2 K)) (pv 1) (po_some (pe_op op_add3 (pv 3) pe_int)) po_none)))) pss_nil) (pss_cons (ps_if (pt_cmpR (op_eq2 hr.units : OpR _ _ (rEq2 K)) (pv 2) pe_int (nomark _)) (pss_one (ps_ret (pe_op op_add3 (pe_op op_add3 (pe_slice (sl_2 : SlR _ (rSl2 K)) (pv 1) po_none (po_some (pv 3))) (pe_lst (pa_cons (C8.pe_c (k_law_event T) hr (by first | decide | omega) (by rfl) (pa_cons (C8.pe_c (k_law_take T) hr (by first | decide | omega) (by rfl) (pa_cons (pv 0) (pa_cons pe_int pa_nil))) pa_nil)) pa_nil))) (pe_slice (sl_2 : SlR _ (rSl2 K)) (pv 1) (po_some (pe_op op_add3 (pv 3) pe_int)) po_none)))) pss_nil) (pss_cons (ps_if (pt_cmpR (op_eq2 hr.units : OpR _ _ (rEq2 K)) (pv 2) pe_int (nomark _)) (pss_one (ps_ret (pe_slice (sl_2 : SlR _ (rSl2 K)) (pv 1) po_none (po_some (pv 3))))) pss_nil) (pss_one (ps_ret (pe_op op_add3 (pv 1) (pe_lst (pa_cons (pe_ix (ix_seq : IxR _ (rIx K)) (pv 1) (pv 3) (fun _ _ => rfl)) pa_nil))))))))))))), ?_⟩
    walk_at "xx"
    refine ⟨h, d, 7, rfl, hh, by decide, fun r H1 r0 r1 c1 hh1 => ?_⟩
    have ep1 := c1.at ep nph
    have ev1 := evl.tk (hh.keep_tk c1.keep)
    walk_at "xx"
    refine b_lenL (lst_of ep1) ?_
    walk_at "xx"
    refine WN.iteB (fun z => ?_) (fun z => ?_)
    · walk_at "xx"
      exact ⟨h, d, rfl, hh1, fun p' H' us k hh' n ne e t l => q p' H' us (c1.keep.trans k) hh' (c1.keep.free n ne) ne e t (by omega)⟩
    · have hz := of_decide_eq_false z
      have hz : ¬ (ws.length : Int) = 0 := fun e => hz (by rw [e])
      walk_at "xx"
      refine iteI (fun z0 => ?_) (fun z0 => ?_)
      · walk_at "xx"
        exact ⟨h, d, rfl, hh1, fun p' H' us k hh' n ne e t l => q p' H' us (c1.keep.trans k) hh' (c1.keep.free n ne) ne e t (by omega)⟩
      walk_at "xx"
      refine b_lenL (lst_of ep1) ?_
      walk_at "xx"
      refine ⟨h, d, (ws.length : Int), rfl, hh1, by omega, fun x H2 x0 x1 c2 hh2 => ?_⟩
      have ep2 := c2.at ep1 nph
      have ev2 := ev1.tk (hh1.keep_tk c2.keep)
      have k2 : Keep h H H2 := c1.keep.trans c2.keep
      have fin : ∀ p' H' us, Same H2 H' → H2 p' = none → H' p' = some (.lst us) → EvL H' us → us.length ≤ 3000 → Q (.ref p') H' := fun p' H' us s n e t l => by
        have ne : p' ≠ h := Ne.symm (hh2.new n).1
        exact q p' H' us (k2.trans s.keep) (hh2.same s) (k2.free n ne) ne e t l
      have gx : ws[x.toNat]? = some ws[x.toNat] := List.getElem?_eq_getElem (by omega)
      have mx : ws[x.toNat] ∈ ws := List.getElem_mem (by omega)
      have evx : ∀ H', Same H2 H' → EvL H' [ws[x.toNat]] := fun H' s => (ev2.sub fun v hv => by rw [List.mem_singleton.mp hv]; exact mx).tk s.tk
      have evc : ∀ H' lo hi, Same H2 H' → EvL H' (cutV ws lo hi) := fun H' lo hi s => ev2.cut.tk s.tk
      have lc : ∀ lo hi, (cutV ws lo hi).length ≤ 900 := fun lo hi => Nat.le_trans (cutV_length ws lo hi) lw
      have sz : ∀ n, n ≤ 10000 → n ≤ sizeLine := fun n h => by rw [sizeLine_eq]; omega
      walk_at "xx"
      refine iteI (fun z1 => ?_) (fun z1 => ?_)
      · walk_at "xx"
        rename_i p1 Ha n1 s1 e1 p2 Hb n2 s2 e2
        refine o_addL (s2 _ _ e1) e2 (sz _ (by have := lc none (some x); have := lc (some (x + 1)) none; omega)) fun p3 Hc n3 s3 e3 => ?_
        have S := s1.trans s2
        exact fin p3 Hc _ (S.trans s3) (S.free n3) e3 ((evc _ _ _ (S.trans s3)).app (evc _ _ _ (S.trans s3))) (by rw [List.length_append]; have := lc none (some x); have := lc (some (x + 1)) none; omega)
      walk_at "xx"
      refine iteI (fun z2 => ?_) (fun z2 => ?_)
      · walk_at "xx"
        rename_i p1 Ha n1 s1 e1
        refine o_ixL (lst_of (s1 _ _ ep2)) (atI_of (j := x.toNat) (by omega) gx) ?_
        walk_at "xx"
        rename_i p2 Hb n2 s2 e2
        refine o_addL (s2 _ _ e1) e2 (sz _ (by have := lc none (some x); rw [List.length_singleton]; omega)) fun p3 Hc n3 s3 e3 => ?_
        walk_at "xx"
        rename_i p4 Hd n4 s4 e4
        have l1 := lc none (some x)
        have l2 := lc (some x) none
        refine o_addL (s4 _ _ e3) e4 (sz _ (by rw [List.length_append, List.length_singleton]; omega)) fun p5 He n5 s5 e5 => ?_
        have S := s1.trans (s2.trans (s3.trans s4))
        have S5 := S.trans s5
        exact fin p5 He _ S5 (S.free n5) e5 (((evc _ _ _ S5).app (evx _ S5)).app (evc _ _ _ S5)) (by rw [List.length_append, List.length_append, List.length_singleton]; omega)
      walk_at "xx"
      refine iteI (fun z3 => ?_) (fun z3 => ?_)
      · walk_at "xx"
        rename_i p1 Ha n1 s1 e1 p2 Hb n2 s2 e2 p3 Hc n3 s3 e3
        have l1 := lc none (some x)
        have l2 := lc (some x) (some (x + 2))
        have l3 := lc (some (x + 2)) none
        refine o_addL (s3 _ _ (s2 _ _ e1)) e3 (sz _ (by rw [List.length_reverse]; omega)) fun p4 Hd n4 s4 e4 => ?_
        walk_at "xx"
        rename_i p5 He n5 s5 e5
        refine o_addL (s5 _ _ e4) e5 (sz _ (by rw [List.length_append, List.length_reverse]; omega)) fun p6 Hf n6 s6 e6 => ?_
        have S := s1.trans (s2.trans (s3.trans (s4.trans s5)))
        have S6 := S.trans s6
        exact fin p6 Hf _ S6 (S.free n6) e6 (((evc _ _ _ S6).app (evc _ _ _ S6).rev).app (evc _ _ _ S6)) (by rw [List.length_append, List.length_append, List.length_reverse]; omega)
      walk_at "xx"
      refine iteI (fun z4 => ?_) (fun z4 => ?_)
      · walk_at "xx"
        rename_i p1 Ha n1 s1 e1
        refine ⟨h, d, 10, rfl, hh2.same s1, by decide, fun y Hb y0 y1 c3 hh3 => ?_⟩
        have n1h : p1 ≠ h := Ne.symm (hh2.new n1).1
        walk_at "xx"
        refine ⟨y.toNat, by rw [Int.toNat_of_nonneg y0]; rfl, by omega, fun v Hc s3 t3 => ?_⟩
        walk_at "xx"
        rename_i p2 Hd n2 s4 e4
        have l1 := lc none (some x)
        have l3 := lc (some (x + 1)) none
        have e1d := s4 _ _ (s3 _ _ (c3.at e1 n1h))
        refine o_addL e1d e4 (sz _ (by rw [List.length_singleton]; omega)) fun p4 He n5 s5 e5 => ?_
        have epe := s5 _ _ (s4 _ _ (s3 _ _ (c3.at (s1 _ _ ep2) nph)))
        walk_at "xx"
        rename_i p5 Hf n6 s6 e6
        refine o_addL (s6 _ _ e5) e6 (sz _ (by rw [List.length_append, List.length_singleton]; omega)) fun p6 Hg n7 s7 e7 => ?_
        have S3 := s3.trans (s4.trans (s5.trans s6))
        have kk : Keep h H2 Hf := s1.keep.trans (c3.keep.trans S3.keep)
        have kk7 := kk.trans s7.keep
        have tk7 : TK H2 Hg := hh2.keep_tk kk7
        have nn : p6 ≠ h := Ne.symm ((hh3.same S3).new n7).1
        refine q p6 Hg _ (k2.trans kk7) (hh3.same (S3.trans s7)) ((k2.trans kk).free n7 nn) nn e7 (((ev2.cut.tk tk7).app (EvL.one (by omega) (t3.tk (s4.trans (s5.trans (s6.trans s7))).tk))).app (ev2.cut.tk tk7)) (by rw [List.length_append, List.length_append, List.length_singleton]; omega)
      walk_at "xx"
      refine iteI (fun z5 => ?_) (fun z5 => ?_)
      · walk_at "xx"
        rename_i p1 Ha n1 s1 e1
        exact fin p1 Ha _ s1 n1 e1 (evc _ _ _ s1) (by have := lc none (some x); omega)
      walk_at "xx"
      refine o_ixL (lst_of ep2) (atI_of (j := x.toNat) (by omega) gx) ?_
      walk_at "xx"
      rename_i p2 Hb n2 s2 e2
      refine o_addL (s2 _ _ ep2) e2 (sz _ (by rw [List.length_singleton]; omega)) fun p3 Hc n3 s3 e3 => ?_
      have S := s2.trans s3
      exact fin p3 Hc _ S (s2.free n3) e3 ((ev2.tk S.tk).app (evx _ S)) (by rw [List.length_append, List.length_singleton]; omega)
end
end K39
-- WIDE
namespace K39
open PySem PySem.Spec PyProof.Rows L2 Wy WN WQ WS WC WE WX WXD WB
open W6 (uu)

section
variable {P : Program} {w : World} {K : PySem.W.Frag} {mg : Str → Option Value} {base : Heap}
theorem rp_ev : ∀ e : Nat, Rp 1 16 (evD e)
  | 0 => ⟨by decide +kernel, by decide +kernel, by decide +kernel, by decide +kernel, by decide +kernel⟩
  | 1 => ⟨by decide +kernel, by decide +kernel, by decide +kernel, by decide +kernel, by decide +kernel⟩
  | 2 => ⟨by decide +kernel, by decide +kernel, by decide +kernel, by decide +kernel, by decide +kernel⟩
  | 3 => ⟨by decide +kernel, by decide +kernel, by decide +kernel, by decide +kernel, by decide +kernel⟩
  | 4 => ⟨by decide +kernel, by decide +kernel, by decide +kernel, by decide +kernel, by decide +kernel⟩
  | 5 => ⟨by decide +kernel, by decide +kernel, by decide +kernel, by decide +kernel, by decide +kernel⟩
  | 6 => ⟨by decide +kernel, by decide +kernel, by decide +kernel, by decide +kernel, by decide +kernel⟩
  | 7 => ⟨by decide +kernel, by decide +kernel, by decide +kernel, by decide +kernel, by decide +kernel⟩
  | 8 => ⟨by decide +kernel, by decide +kernel, by decide +kernel, by decide +kernel, by decide +kernel⟩
  | n + 9 => show Rp 1 16 (evD 9) from ⟨by decide +kernel, by decide +kernel, by decide +kernel, by decide +kernel, by decide +kernel⟩
theorem rp_evs {ps : List Nat} (h : ps.length ≤ 3000) : Rp 2 60000 (.list (ps.map evD)) := (rp_lst (n := 16) (k := 1) fun x hx => by
  obtain ⟨e, _, rfl⟩ := List.mem_map.mp hx
  exact rp_ev e).mono (Nat.le_refl _) (by rw [List.length_map]; omega)
theorem rp_set {s : List Nat} (h : s.length ≤ 5) : Rp 2 100 (setD s) := (rp_tup (n := 16) (k := 1) fun x hx => by
  obtain ⟨e, _, rfl⟩ := List.mem_map.mp hx
  exact rp_ev e).mono (Nat.le_refl _) (by rw [List.length_map]; omega)
theorem rp_sets {S : List (List Nat)} (h : S.length ≤ 12) (hs : ∀ s ∈ S, s.length ≤ 5) : Rp 3 60000 (.list (S.map setD)) := (rp_lst (n := 100) (k := 2) fun x hx => by
  obtain ⟨s, h, rfl⟩ := List.mem_map.mp hx
  exact rp_set (hs s h)).mono (Nat.le_refl _) (by rw [List.length_map]; omega)
def spTold (K : PySem.W.Frag) : Sp := fun vs H Q _ => ∃ (a pa : Addr) (S : List (List Nat)) (m : Nat) (ps : List Nat), vs = [.ref a, .int (m : Int), .ref pa, .bl (acc S m ps [([], [])])] ∧ SetsAt K H a S ∧ PapAt K H pa ps ∧ ps.length ≤ 3000 ∧
  ∀ H', Same H H' → Q (.bl true) H'
theorem k_law_is_told (T : Tx K mg) : WG.CalG P w K mg base 3 "_law_is_told" (spTold K) := by
  refine WG.cal_ofG (N := n_law_is_told) T.d_law_is_told sc_law_is_told (fun _ _ F => F.bindsN fun _ _ _ _ _ _ us hl => match us, hl with | [_, _, _, _], _ => rfl) (fun vs H Q E h => ?_) (fun f cdv A outer s H vs Q E hr hq h => ?_)
  · obtain ⟨_, _, _, _, _, rfl, _⟩ := h
    rfl
  · obtain ⟨a, pa, S, m, ps, rfl, hS, hP, lp, q⟩ := h
    refine ⟨_, (pss_cons (ps_asg (pe_callTy (call_lst : CallR _ _ (rLst K)) (by rfl) T.z_list (by decide +kernel) (pa_cons (pv 0) pa_nil)) (pg_name (i := 4) sc_law_is_told.nd rfl (Or.inl rfl))) (pss_cons (ps_asg (pe_callTy (call_lst : CallR _ _ (rLst K)) (by rfl) T.z_list (by decide +kernel) (pa_cons (pv 2) pa_nil)) (pg_name (i := 5) sc_law_is_told.nd rfl (Or.inl rfl))) (pss_cons (ps_asg (C8.pe_c (k_check_shortest T) hr (by first | decide | omega) (by rfl) (pa_cons (pv 4) (pa_cons (pv 1) (pa_cons (pv 5) pa_nil)))) (pg_name (i := 6) sc_law_is_told.nd rfl (Or.inl rfl))) (pss_cons (ps_if (PW.pt (pw_or (pt_not (pt_tr (pe_callB (call_isi2 : CallR _ _ (rIsi2 K)) (by rfl) T.z_isinstance (by decide +kernel) (pa_cons (pv 6) (pa_cons (pe_bltn (v := .ty "bool") (by rfl) T.z_bool (by decide +kernel) rfl) pa_nil))) : PT _ _ (tTr K _))) (pw_or (pt_cmpR (op_ne2 hr.units : OpR _ _ (rNe2 K)) (pv 6) (pv 3) (nomark _)) (pw_or (pt_cmpR (op_ne2 hr.units : OpR _ _ (rNe2 K)) (pe_callB (WG.call_reprG hq hr.units : CallR _ _ (rRepr K)) (by rfl) T.z_repr (by decide +kernel) (pa_cons (pv 4) pa_nil)) (pe_callB (WG.call_reprG hq hr.units : CallR _ _ (rRepr K)) (by rfl) T.z_repr (by decide +kernel) (pa_cons (pv 0) pa_nil)) (nomark _)) (pw_or1 (pt_cmpR (op_ne2 hr.units : OpR _ _ (rNe2 K)) (pe_callB (WG.call_reprG hq hr.units : CallR _ _ (rRepr K)) (by rfl) T.z_repr (by decide +kernel) (pa_cons (pv 5) pa_nil)) (pe_callB (WG.call_reprG hq hr.units : CallR _ _ (rRepr K)) (by rfl) T.z_repr (by decide +kernel) (pa_cons (pv 2) pa_nil)) (nomark _))))))) (pss_one (ps_ret pe_bl)) pss_nil) (pss_cons (ps_asg (C8.pe_c (k_check_shortest T) hr (by first | decide | omega) (by rfl) (pa_cons (pe_callTy (call_lst : CallR _ _ (rLst K)) (by rfl) T.z_list (by decide +kernel) (pa_cons (pv 0) pa_nil)) (pa_cons (pv 1) (pa_cons (pe_callTy (call_lst : CallR _ _ (rLst K)) (by rfl) T.z_list (by decide +kernel) (pa_cons (pv 2) pa_nil)) pa_nil)))) (pg_name (i := 7) sc_law_is_told.nd rfl (Or.inl rfl))) (pss_one (ps_ret (pe_and (pe_callB (call_isi2 : CallR _ _ (rIsi2 K)) (by rfl) T.z_isinstance (by decide +kernel) (pa_cons (pv 7) (pa_cons (pe_bltn (v := .ty "bool") (by rfl) T.z_bool (by decide +kernel) rfl) pa_nil))) (pe_one (pe_cmpR (op_eq2 hr.units : OpR _ _ (rEq2 K)) (pv 7) (pv 3) (nomark _))))))))))), ?_⟩
    obtain ⟨us, hu, tu⟩ := hS.ex
    obtain ⟨pus, hpu, tpu, hlt⟩ := id hP
    walk_at "xx"
    refine ls_new hu fun p1 H1 n1 e1s e1 => ?_
    walk_at "xx"
    refine ls_new (e1s.seq hpu) fun p2 H2 n2 s2 e2 => ?_
    walk_at "xx"
    have S2 := e1s.trans s2
    have A1 : SetsAt K H2 p1 S := ⟨⟨us, lst_of (s2 _ _ e1), tu.tk S2.tk⟩, hS.len, hS.sz⟩
    have A2 : PapAt K H2 p2 ps := ⟨pus, lst_of e2, tpu.tk S2.tk, hlt⟩
    refine ⟨p1, p2, S, m, ps, rfl, A1, A2, lp, fun H3 s3 => ?_⟩
    have S3 := S2.trans s3
    have D1 : Dp K H3 (.ref p1) (.list (S.map setD)) := .lst (lst_of (s3 _ _ (s2 _ _ e1))) (tu.tk S3.tk).dp
    have D2 : Dp K H3 (.ref a) (.list (S.map setD)) := .lst (S3.seq hu) (tu.tk S3.tk).dp
    have D3 : Dp K H3 (.ref p2) (.list (ps.map evD)) := .lst (lst_of (s3 _ _ e2)) (tpu.tk S3.tk).dp
    have D4 : Dp K H3 (.ref pa) (.list (ps.map evD)) := .lst (S3.seq hpu) (tpu.tk S3.tk).dp
    have R1 := rp_sets hS.len fun s hs => (hS.sz s hs).1
    have R2 := rp_evs lp
    walk_at "xx"
    rw [decide_eq_true rfl]
    walk_at "xx"
    refine b_repr D1 R1 (by decide) (by decide) ?_
    walk_at "xx"
    refine b_repr D2 R1 (by decide) (by decide) ?_
    walk_at "xx"
    rw [decide_eq_true rfl]
    walk_at "xx"
    refine b_repr D3 R2 (by decide) (by decide) ?_
    walk_at "xx"
    refine b_repr D4 R2 (by decide) (by decide) ?_
    walk_at "xx"
    rw [decide_eq_true rfl]
    walk_at "xx"
    refine ls_new (S3.seq hu) fun p3 H4 n4 s4 e4 => ?_
    walk_at "xx"
    refine ls_new ((S3.trans s4).seq hpu) fun p4 H5 n5 s5 e5 => ?_
    walk_at "xx"
    have S5 := S3.trans (s4.trans s5)
    have A3 : SetsAt K H5 p3 S := ⟨⟨us, lst_of (s5 _ _ e4), tu.tk S5.tk⟩, hS.len, hS.sz⟩
    have A4 : PapAt K H5 p4 ps := ⟨pus, lst_of e5, tpu.tk S5.tk, hlt⟩
    refine ⟨p3, p4, S, m, ps, rfl, A3, A4, lp, fun H6 s6 => ?_⟩
    walk_at "xx"
    rw [decide_eq_true rfl]
    exact q H6 (S5.trans s6)
end
end K39
-- WIDE
-- CUTIF law := len(sets) < 7 and (paper is None) != _law_can_hold(sets, many)
-- CUTIF law := due and len(sets) < 7 and _law_can_hold(asked[0], asked[1])
namespace K39
open PySem PySem.Spec PyProof.Rows L2 Wy WN WQ WS WC WE WX WXD WB
open W6 (uu)

section
variable {P : Program} {w : World} {K : PySem.W.Frag} {mg : Str → Option Value} {base : Heap}
/-- a paper in the own heap -/
def PapH (H : Hp) (p : Addr) (n : Nat) : Prop := ∃ ws, H p = some (.lst ws) ∧ EvL H ws ∧ ws.length ≤ n
theorem PapH.keep {H H' : Hp} {a h d : Addr} {n : Nat} (x : PapH H a n) (hh : HandAt H h d) (k : Keep h H H') (ne : a ≠ h) : PapH H' a n := by
  obtain ⟨us, e, t, l⟩ := x
  exact ⟨us, k.at e ne, t.tk (hh.keep_tk k), l⟩
theorem PapH.same {H H' : Hp} {a : Addr} {n : Nat} (x : PapH H a n) (s : Same H H') : PapH H' a n := by
  obtain ⟨us, e, t, l⟩ := x
  exact ⟨us, s _ _ e, t.tk s.tk, l⟩
theorem PapH.chg {H H' : Hp} {a l : Addr} {n : Nat} {ys : List V} (x : PapH H a n) (c : Chg l H H') (e : H l = some (.lst ys)) (ne : a ≠ l) : PapH H' a n := by
  obtain ⟨us, e1, t, l⟩ := x
  exact ⟨us, c.at e1 ne, t.tk (c.tk e), l⟩
theorem SetsH.same {H H' : Hp} {a : Addr} {S : List (List Nat)} (x : SetsH H a S) (s : Same H H') : SetsH H' a S := by
  obtain ⟨us, e, t⟩ := x.ex
  exact ⟨⟨us, s _ _ e, t.tk s.tk⟩, x.len, x.sz⟩
theorem SetsH.chg {H H' : Hp} {a l : Addr} {S : List (List Nat)} {ys : List V} (x : SetsH H a S) (c : Chg l H H') (e : H l = some (.lst ys)) (ne : a ≠ l) : SetsH H' a S := by
  obtain ⟨us, e1, t⟩ := x.ex
  exact ⟨⟨us, c.at e1 ne, t.tk (c.tk e)⟩, x.len, x.sz⟩
theorem SetsH.ne {H : Hp} {a b : Addr} {S : List (List Nat)} (x : SetsH H a S) (n : H b = none) : a ≠ b := by
  obtain ⟨us, e, _⟩ := x.ex
  exact ne_of_none e n
theorem PapH.ne {H : Hp} {a b : Addr} {n : Nat} (x : PapH H a n) (k : H b = none) : a ≠ b := by
  obtain ⟨us, e, _, _⟩ := x
  exact ne_of_none e k
theorem PapH.mono {H : Hp} {a : Addr} {n n' : Nat} (x : PapH H a n) (h : n ≤ n') : PapH H a n' := by
  obtain ⟨us, e, t, l⟩ := x
  exact ⟨us, e, t, Nat.le_trans l h⟩
theorem SetsH.neq {H : Hp} {a b : Addr} {S : List (List Nat)} {v u : V} {m : Int} (x : SetsH H a S) (e : H b = some (.lst [v, .int m, u])) : a ≠ b := by
  obtain ⟨us, e1, t⟩ := x.ex
  intro z
  subst z
  rw [e] at e1
  cases e1
  cases S with
  | nil => cases t
  | cons s0 S => cases t with
    | cons h1 h2 => cases S with
      | nil => cases h2
      | cons s1 S => cases h2 with
        | cons h3 h4 => cases h3
/-- what the loop keeps -/
structure En (h d sa pa : Addr) (S : List (List Nat)) (H : Hp) : Prop where
  hd : HandAt H h d
  st : SetsH H sa S
  pp : PapH H pa 900
theorem En.same {h d sa pa : Addr} {S : List (List Nat)} {H H' : Hp} (x : En h d sa pa S H) (s : Same H H') : En h d sa pa S H' := ⟨x.hd.same s, x.st.same s, x.pp.same s⟩
theorem En.keep {h d sa pa : Addr} {S : List (List Nat)} {H H' : Hp} (x : En h d sa pa S H) (k : Keep h H H') (hh : HandAt H' h d) (n1 : sa ≠ h) (n2 : pa ≠ h) : En h d sa pa S H' := ⟨hh, x.st.keep x.hd k n1, x.pp.keep x.hd k n2⟩
theorem En.chg {h d sa pa l : Addr} {S : List (List Nat)} {H H' : Hp} {ys : List V} (x : En h d sa pa S H) (c : Chg l H H') (e : H l = some (.lst ys)) (n : h ≠ l ∧ d ≠ l) (n1 : sa ≠ l) (n2 : pa ≠ l) : En h d sa pa S H' := ⟨x.hd.chg c n.1 n.2, x.st.chg c e n1, x.pp.chg c e n2⟩
theorem ok_law (T : Tx K mg) {f : Addr} {fd : FuncData} (F : FunD K "law" "law" (defArgs s_law) (defBody s_law) (defScope s_law) [] [] f fd) : WG.FnG P w K mg base 5 f fd ["script"] (spLaw K) := by
  refine WG.fnG (N := n_law) fd F sc_law (fun vs H Q E h => ?_) (fun f cdv A outer s H vs Q E hr hq h => ?_)
  · obtain ⟨a, ns, rfl, _⟩ := h
    rfl
  · obtain ⟨a0, zs, rfl, hS, hl, q⟩ := h
    refine ⟨_, (pss_cons (ps_asg (pe_lst (pa_cons (C8.pe_c (k_law_draws T) hr (by first | decide | omega) (by rfl) (pa_cons (pv 0) (pa_cons pe_int pa_nil))) (pa_cons pe_int pa_nil))) (pg_name (i := 1) sc_law.nd rfl (Or.inl rfl))) (pss_cons (ps_asg (C8.pe_c (k_law_sets T) hr (by first | decide | omega) (by rfl) (pa_cons (pv 1) pa_nil)) (pg_name (i := 2) sc_law.nd rfl (Or.inl rfl))) (pss_cons (ps_asg (pe_ix (ix_seq : IxR _ (rIx K)) (pe_lst (pa_cons pe_int (pa_cons pe_int (pa_cons pe_int (pa_cons pe_int (pa_cons pe_int (pa_cons pe_int (pa_cons pe_int pa_nil)))))))) (C8.pe_c (k_law_take T) hr (by first | decide | omega) (by rfl) (pa_cons (pv 1) (pa_cons pe_int pa_nil))) (fun _ _ => rfl)) (pg_name (i := 3) sc_law.nd rfl (Or.inl rfl))) (C8.pss_cut (ps_if (pt_cmpR op_gt (pe_callB (call_len2 : CallR _ _ (rLn K)) (by rfl) T.z_len (by decide +kernel) (pa_cons (pv 2) pa_nil)) pe_int (nomark _)) (pss_one (ps_asg (pe_op op_add3 pe_int (C8.pe_c (k_law_take T) hr (by first | decide | omega) (by rfl) (pa_cons (pv 1) (pa_cons pe_int pa_nil)))) (pg_name (i := 3) sc_law.nd rfl (Or.inl rfl)))) pss_nil) (pss_cons (ps_asg (C8.pe_c (k_law_paper T) hr (by first | decide | omega) (by rfl) (pa_cons (pv 1) (pa_cons (pv 2) (pa_cons (pv 3) pa_nil)))) (pg_name (i := 4) sc_law.nd rfl (Or.inl rfl))) (C8.pss_cut (ps_if (PW.pt (pw_and (pt_cmpR op_lt (pe_callB (call_len2 : CallR _ _ (rLn K)) (by rfl) T.z_len (by decide +kernel) (pa_cons (pv 2) pa_nil)) pe_int (nomark _)) (pw_and1 (pt_cmpR (op_ne2 hr.units : OpR _ _ (rNe2 K)) (pe_cmpR op_isN2 (pv 4) pe_non (nomark _)) (C8.pe_c (k_law_can_hold T) hr (by first | decide | omega) (by rfl) (pa_cons (pv 2) (pa_cons (pv 3) pa_nil))) (nomark _))))) (pss_one (ps_ret pe_bl)) pss_nil) (C8.pss_cut (ps_if (pt_cmpR op_isN2 (pv 4) pe_non (nomark _)) (pss_one (ps_asg (C8.pe_c (k_law_drawn T) hr (by first | decide | omega) (by rfl) (pa_cons (pv 1) pa_nil)) (pg_name (i := 4) sc_law.nd rfl (Or.inl rfl)))) pss_nil) (pss_cons (ps_for PassesOwn.never rfl (pi_range1 (by rfl) T.z_range (pa_cons (pe_op op_sub pe_int (pe_op op_mul2 pe_int (pe_callTy call_int2 (by rfl) T.z_int (by decide +kernel) (pa_cons (pe_cmpR op_gt (pe_callB (call_len2 : CallR _ _ (rLn K)) (by rfl) T.z_len (by decide +kernel) (pa_cons (pv 2) pa_nil)) pe_int (nomark _)) pa_nil)))) pa_nil)) (pg_name (i := 5) sc_law.nd rfl (Or.inl rfl)) (pss_cons (ps_asg (pe_lst (pa_cons (pv 2) (pa_cons (pv 3) (pa_cons (pv 4) pa_nil)))) (pg_name (i := 6) sc_law.nd rfl (Or.inl rfl))) (pss_cons (ps_asg (C8.pe_c (k_law_take T) hr (by first | decide | omega) (by rfl) (pa_cons (pv 1) (pa_cons pe_int pa_nil))) (pg_name (i := 7) sc_law.nd rfl (Or.inl rfl))) (C8.pss_cut (ps_if (PW.pt (pw_and (pt_cmpR op_gt (pv 5) pe_int (nomark _)) (pw_and1 (pt_cmpR (op_eq2 hr.units : OpR _ _ (rEq2 K)) (pv 7) pe_int (nomark _))))) (pss_one (ps_asg (pe_callC cc_max (by rfl) T.z_max (by decide +kernel) (pa_cons pe_int (pa_cons (pe_op op_add3 (pe_op op_sub (pv 3) pe_int) (pe_op op_mul2 pe_int (C8.pe_c (k_law_take T) hr (by first | decide | omega) (by rfl) (pa_cons (pv 1) (pa_cons pe_int pa_nil))))) pa_nil))) (pg_sub (pv 6) pe_int set_list))) pss_nil) (C8.pss_cut (ps_if (PW.pt (pw_and (pt_cmpR op_gt (pv 5) pe_int (nomark _)) (pw_and (pt_cmpR (op_eq2 hr.units : OpR _ _ (rEq2 K)) (pv 7) pe_int (nomark _)) (pw_and1 (pt_cmpR op_gt (pe_callB (call_len2 : CallR _ _ (rLn K)) (by rfl) T.z_len (by decide +kernel) (pa_cons (pv 2) pa_nil)) pe_int (nomark _)))))) (pss_one (ps_asg (pe_op op_add3 (pe_slice (sl_2 : SlR _ (rSl2 K)) (pv 2) (po_some pe_int) po_none) (pe_lst (pa_cons (pe_ix (ix_seq : IxR _ (rIx K)) (pv 2) pe_int (fun _ _ => rfl)) pa_nil))) (pg_sub (pv 6) pe_int set_list))) pss_nil) (C8.pss_cut (ps_if (PW.pt (pw_and (pt_cmpR op_gt (pv 5) pe_int (nomark _)) (pw_and1 (pt_cmpR op_gt (pv 7) pe_int (nomark _))))) (pss_one (ps_asg (C8.pe_c (k_law_spoilt T) hr (by first | decide | omega) (by rfl) (pa_cons (pv 1) (pa_cons (pv 4) pa_nil))) (pg_sub (pv 6) pe_int set_list))) pss_nil) (pss_cons (ps_asg (C8.pe_c (k_law_accepts T) hr (by first | decide | omega) (by rfl) (pa_cons (pe_ix (ix_seq : IxR _ (rIx K)) (pv 6) pe_int (fun _ _ => rfl)) (pa_cons (pe_ix (ix_seq : IxR _ (rIx K)) (pv 6) pe_int (fun _ _ => rfl)) (pa_cons (pe_ix (ix_seq : IxR _ (rIx K)) (pv 6) pe_int (fun _ _ => rfl)) pa_nil)))) (pg_name (i := 8) sc_law.nd rfl (Or.inl rfl))) (C8.pss_cut (ps_if (PW.pt (pw_and (pt_tr (pv 8) : PT _ _ (tTr K _)) (pw_and (pt_cmpR op_lt (pe_callB (call_len2 : CallR _ _ (rLn K)) (by rfl) T.z_len (by decide +kernel) (pa_cons (pv 2) pa_nil)) pe_int (nomark _)) (pw_and1 (pt_tr (C8.pe_c (k_law_can_hold T) hr (by first | decide | omega) (by rfl) (pa_cons (pe_ix (ix_seq : IxR _ (rIx K)) (pv 6) pe_int (fun _ _ => rfl)) (pa_cons (pe_ix (ix_seq : IxR _ (rIx K)) (pv 6) pe_int (fun _ _ => rfl)) pa_nil))) : PT _ _ (tTr K _)))))) (pss_one (ps_ret pe_bl)) pss_nil) (pss_one (ps_if (pt_not (pt_tr (WG.pe_cG (k_law_is_told T) hr (by first | decide | omega) hq (by rfl) (pa_cons (pe_ix (ix_seq : IxR _ (rIx K)) (pv 6) pe_int (fun _ _ => rfl)) (pa_cons (pe_ix (ix_seq : IxR _ (rIx K)) (pv 6) pe_int (fun _ _ => rfl)) (pa_cons (pe_ix (ix_seq : IxR _ (rIx K)) (pv 6) pe_int (fun _ _ => rfl)) (pa_cons (pv 8) pa_nil))))) : PT _ _ (tTr K _))) (pss_one (ps_ret pe_bl)) pss_nil)))))))))) (pss_one (ps_ret pe_bl)))))))))), ?_⟩
    walk_at "xx"
    refine ⟨a0, zs, 260, rfl, hS, hl, by decide, by decide, fun d H1 ds s1 n1 e1 => ?_⟩
    walk_at "xx"
    rename_i h H2 n2 s2 e2
    have hh : HandAt H2 h d := ⟨0, ds, e2, Int.le_refl 0, s2 _ _ e1⟩
    refine ⟨h, d, rfl, hh, fun sa H3 sus S k3 hh3 n3 nsh e3 hSL l12 => ?_⟩
    have X3 : SetsH H3 sa S := ⟨⟨sus, e3, hSL.1⟩, l12, hSL.2⟩
    walk_at "xx"
    rename_i lp H4 n4 s4 e4
    refine ⟨h, d, 7, rfl, hh3.same s4, by decide, fun r H5 r0 r1 c5 hh5 => ?_⟩
    have nlp : lp ≠ h := Ne.symm (hh3.new n4).1
    have e5 := c5.at e4 nlp
    have X5 := X3.keep hh3 (s4.keep.trans c5.keep) nsh
    refine ix_int (xs := [0, 1, 2, 3, 2, 1, 7]) (lst_of e5) r0 (by exact r1) fun m0 gm => ?_
    have hm0 : 0 ≤ m0 := by
      have := List.mem_of_getElem? gm
      simp only [List.mem_cons, List.not_mem_nil, or_false] at this
      omega
    clear s4 e4 e5 gm
    walk_at "xx"
    refine s_cut (fun σ H6 => ∃ (m : Int) (x4 x5 x6 x7 x8 : Option V), σ = [some (.ref a0), some (.ref h), some (.ref sa), some (.int m), x4, x5, x6, x7, x8] ∧ 0 ≤ m ∧ HandAt H6 h d ∧ SetsH H6 sa S) ?_ (fun σ H6 p => ?_)
    · have ls : ∃ us, H5 sa = some (.lst us) ∧ us.length = S.length := by
        obtain ⟨us, e, t⟩ := X5.ex
        exact ⟨us, e, by have := t.length; rwa [List.length_map] at this⟩
      obtain ⟨us, e, lu⟩ := ls
      walk_at "xx"
      refine b_lenL (lst_of e) ?_
      walk_at "xx"
      refine iteD (fun z => ?_) (fun z => ?_)
      · walk_at "xx"
        refine ⟨h, d, 4, rfl, hh5, by decide, fun r2 H6 r20 r21 c6 hh6 => ?_⟩
        walk_at "xx"
        exact ⟨1 + r2, _, _, _, _, _, rfl, by omega, hh6, X5.keep hh5 c6.keep nsh⟩
      · walk_at "xx"
        exact ⟨m0, _, _, _, _, _, rfl, hm0, hh5, X5⟩
    · obtain ⟨m, x4, x5, x6, x7, x8, rfl, hm, hh6, X6⟩ := p
      obtain ⟨m, rfl⟩ : ∃ n : Nat, m = n := ⟨m.toNat, (Int.toNat_of_nonneg hm).symm⟩
      walk_at "xx"
      refine ⟨h, d, sa, S, m, rfl, hh6, X6, nsh, fun v H7 k7 hh7 hv => ?_⟩
      have X7 := X6.keep hh6 k7 nsh
      obtain ⟨us, e7, t7⟩ := X7.ex
      have lu : us.length = S.length := by have := t7.length; rwa [List.length_map] at this
      walk_at "xx"
      refine s_cut (fun σ H8 => ∃ (v : V) (x5 x6 x7 x8 : Option V), σ = [some (.ref a0), some (.ref h), some (.ref sa), some (.int m), some v, x5, x6, x7, x8] ∧ HandAt H8 h d ∧ SetsH H8 sa S ∧ (v = .non ∨ ∃ p, v = .ref p ∧ p ≠ h ∧ PapH H8 p 900)) ?_ (fun σ H8 p => ?_)
      · have fin : ∀ H8, Same H7 H8 → HandAt H8 h d ∧ SetsH H8 sa S ∧ (v = .non ∨ ∃ p, v = .ref p ∧ p ≠ h ∧ PapH H8 p 900) := fun H8 s8 => by
          refine ⟨hh7.same s8, X7.keep hh7 s8.keep nsh, ?_⟩
          rcases hv with ⟨rfl, hc⟩ | ⟨p, ws, ps, rfl, np, nph, ep, tp, hps, lps, hnc⟩
          · exact .inl rfl
          · refine .inr ⟨p, rfl, nph, ws, s8 _ _ ep, (EvL.of tp hps).tk s8.tk, ?_⟩
            have := tp.length
            rw [List.length_map] at this
            omega
        walk_at "xx"
        refine b_lenL (lst_of e7) ?_
        walk_at "xx"
        refine iteD (fun z => ?_) (fun z => ?_)
        · have key : ∀ b : Bool, (b = true ↔ can S m) → (!decide (V.bl (decide (v = V.non)) = V.bl b)) = false := fun b hb => by
            rcases hv with ⟨rfl, hc⟩ | ⟨p, ws, ps, rfl, np, nph, ep, tp, hps, lps, hnc⟩
            · rw [hb.mpr (hc (by omega))]
              decide +kernel
            · cases b with
              | false => rw [nRN]; decide +kernel
              | true => exact absurd (hb.mp rfl) hnc
          walk_at "xx"
          refine ⟨sa, S, m, rfl, X7.at', by omega, fun b H8 s8 hb => ?_⟩
          walk_at "xx"
          rw [key b hb]
          walk_at "xx"
          exact ⟨v, _, _, _, _, rfl, fin H8 s8⟩
        · walk_at "xx"
          exact ⟨v, _, _, _, _, rfl, fin H7 (Same.refl _)⟩
      · clear hv e7 t7
        obtain ⟨v, x5, x6, x7, x8, rfl, hh8, X8, hv⟩ := p
        refine s_cut (fun σ H9 => ∃ (pa : Addr) (x5 x6 x7 x8 : Option V), σ = [some (.ref a0), some (.ref h), some (.ref sa), some (.int m), some (.ref pa), x5, x6, x7, x8] ∧ HandAt H9 h d ∧ SetsH H9 sa S ∧ pa ≠ h ∧ PapH H9 pa 900) ?_ (fun σ H9 p => ?_)
        · rcases hv with rfl | ⟨p, rfl, nph, hp⟩
          · walk_at "xx"
            refine ⟨h, d, rfl, hh8, fun p H9 us k9 hh9 np nph ep t l => ?_⟩
            walk_at "xx"
            exact ⟨p, _, _, _, _, rfl, hh9, X8.keep hh8 k9 nsh, nph, us, ep, t, by omega⟩
          · walk_at "xx"
            exact ⟨p, _, _, _, _, rfl, hh8, X8, nph, hp⟩
        · obtain ⟨pa, x5, x6, x7, x8, rfl, hh9, X9, npa, hpa⟩ := p
          obtain ⟨us, e9, t9⟩ := X9.ex
          have lu : us.length = S.length := by have := t9.length; rwa [List.length_map] at this
          walk_at "xx"
          refine b_lenL (lst_of e9) ?_
          walk_at "xx"
          clear e9 t9 lu
          refine f_range (fun i σ H' => ∃ (x5 x6 x7 x8 : Option V), σ = [some (.ref a0), some (.ref h), some (.ref sa), some (.int m), some (.ref pa), x5, x6, x7, x8] ∧ En h d sa pa S H')
            ⟨_, _, _, _, rfl, hh9, X9, hpa⟩ (fun i σ H' hi p => ?_) (fun σ H' p => ?_)
          · obtain ⟨_, _, _, _, rfl, X⟩ := p
            walk_at "xx"
            rename_i ak H10 nk sk ek
            have X10 := X.same sk
            have nh := X.hd.new nk
            have nsk := X.st.ne nk
            have npk := X.pp.ne nk
            refine ⟨h, d, 8, rfl, X10.hd, by decide, fun kd H11 kd0 kd1 c11 hh11 => ?_⟩
            have X11 := X10.keep c11.keep hh11 nsh npa
            have e11 := c11.at ek nh.1.symm
            clear X10 c11 ek sk X
            walk_at "xx"
            refine s_cut (fun σ HA => ∃ (m' : Int) (x8 : Option V), σ = [some (.ref a0), some (.ref h), some (.ref sa), some (.int m), some (.ref pa), some (.int (0 + (i : Int))), some (.ref ak), some (.int kd), x8] ∧ 0 ≤ m' ∧ En h d sa pa S HA ∧ HA ak = some (.lst [.ref sa, .int m', .ref pa])) ?_ (fun σ HA p => ?_)
            · walk_at "xx"
              refine iteD (fun z => ?_) (fun z => ?_)
              · walk_at "xx"
                refine iteI (fun y => ?_) (fun y => ?_)
                · walk_at "xx"
                  refine ⟨h, d, 2, rfl, X11.hd, by decide, fun r2 H12 r20 r21 c12 hh12 => ?_⟩
                  have X12 := X11.keep c12.keep hh12 nsh npa
                  have e12 := c12.at e11 nh.1.symm
                  walk_at "xx"
                  refine st_L e12 (j := 1) rfl fun H13 c13 e13 => ?_
                  exact ⟨_, _, rfl, by omega, X12.chg c13 e12 nh nsk npk, e13⟩
                · walk_at "xx"
                  exact ⟨(m : Int), _, rfl, by omega, X11, e11⟩
              · walk_at "xx"
                exact ⟨(m : Int), _, rfl, by omega, X11, e11⟩
            · obtain ⟨m', x8', rfl, hm', XA, eA⟩ := p
              clear X11 e11 hh11
              obtain ⟨m', rfl⟩ : ∃ n : Nat, m' = n := ⟨m'.toNat, (Int.toNat_of_nonneg hm').symm⟩
              refine s_cut (fun σ HB => ∃ (x8 : Option V) (sa' : Addr) (S' : List (List Nat)), σ = [some (.ref a0), some (.ref h), some (.ref sa), some (.int m), some (.ref pa), some (.int (0 + (i : Int))), some (.ref ak), some (.int kd), x8] ∧ En h d sa pa S HB ∧ HB ak = some (.lst [.ref sa', .int m', .ref pa]) ∧ SetsH HB sa' S' ∧ sa' ≠ h ∧ S'.length = S.length) ?_ (fun σ HB p => ?_)
              · obtain ⟨us, eu, tu⟩ := XA.st.ex
                have lu : us.length = S.length := by have := tu.length; rwa [List.length_map] at this
                walk_at "xx"
                refine iteD (fun z => ?_) (fun z => ?_)
                · walk_at "xx"
                  refine iteI (fun y => ?_) (fun y => ?_)
                  · walk_at "xx"
                    refine b_lenL (lst_of eu) ?_
                    walk_at "xx"
                    refine iteD (fun y2 => ?_) (fun y2 => ?_)
                    · obtain ⟨s0, S1, hS0⟩ : ∃ s0 S1, S = s0 :: S1 := by
                        cases S with
                        | nil => rw [lu, List.length_nil] at y2; omega
                        | cons s0 S1 => exact ⟨_, _, rfl⟩
                      have tu2 : TpAll HA us ((s0 :: S1).map setD) := by rw [← hS0]; exact tu
                      obtain ⟨u0, us1, hus⟩ : ∃ u0 us1, us = u0 :: us1 := by
                        cases us with
                        | nil => cases tu2
                        | cons u0 us1 => exact ⟨_, _, rfl⟩
                      subst hus
                      have t0 : Tp HA u0 (setD s0) ∧ TpAll HA us1 (S1.map setD) := by
                        cases tu2 with
                        | cons h1 h2 => exact ⟨h1, h2⟩
                      have ecut : cutV (u0 :: us1) (some 1) none = us1 := cutFrom _ (by decide)
                      walk_at "xx"
                      rename_i p1 Hp n1 s1 e1
                      rw [ecut] at e1
                      refine o_ixL (lst_of (s1 _ _ eu)) (atI_nat (j := 0) rfl) ?_
                      walk_at "xx"
                      rename_i p2 Hq n2 s2 e2
                      have ln : us1.length + ([u0] : List V).length ≤ sizeLine := by
                        have := XA.st.len
                        rw [List.length_cons] at lu
                        rw [List.length_singleton, sizeLine_eq]
                        omega
                      refine o_addL (s2 _ _ e1) e2 ln fun p3 Hr n3 s3 e3 => ?_
                      have Sr := s1.trans (s2.trans s3)
                      have eAr := Sr _ _ eA
                      have nha : h ≠ ak ∧ d ≠ ak := nh
                      have n3a : p3 ≠ ak := Ne.symm (ne_of_none (s2 _ _ (s1 _ _ eA)) n3)
                      have n3h : p3 ≠ h := Ne.symm ((XA.hd.same (s1.trans s2)).new n3).1
                      walk_at "xx"
                      refine st_L eAr (j := 0) rfl fun Hs cs es => ?_
                      have tks := Sr.tk.trans (cs.tk eAr)
                      refine ⟨_, p3, S1 ++ [s0], rfl, (XA.same Sr).chg cs eAr nha nsk npk, es, ⟨⟨us1 ++ [u0], cs.at e3 n3a, ?_⟩, ?_, ?_⟩, n3h, ?_⟩
                      · rw [List.map_append]
                        exact tpSnoc (t0.2.tk tks) (t0.1.tk tks)
                      · have := XA.st.len
                        rw [hS0, List.length_cons] at this
                        rw [List.length_append, List.length_singleton]
                        omega
                      · intro s hs
                        refine XA.st.sz s ?_
                        rw [hS0]
                        rcases List.mem_append.mp hs with hs | hs
                        · exact List.mem_cons_of_mem _ hs
                        · rw [List.mem_singleton.mp hs]
                          exact List.mem_cons_self ..
                      · rw [hS0, List.length_append, List.length_singleton, List.length_cons]
                    · walk_at "xx"
                      exact ⟨_, sa, S, rfl, XA, eA, XA.st, nsh, rfl⟩
                  · walk_at "xx"
                    exact ⟨_, sa, S, rfl, XA, eA, XA.st, nsh, rfl⟩
                · walk_at "xx"
                  exact ⟨_, sa, S, rfl, XA, eA, XA.st, nsh, rfl⟩
              · obtain ⟨x8, sa', S', rfl, XB, eB, XS, ns', lS'⟩ := p
                clear XA eA
                refine s_cut (fun σ HC => ∃ (x8 : Option V) (pa' : Addr), σ = [some (.ref a0), some (.ref h), some (.ref sa), some (.int m), some (.ref pa), some (.int (0 + (i : Int))), some (.ref ak), some (.int kd), x8] ∧ En h d sa pa S HC ∧ HC ak = some (.lst [.ref sa', .int m', .ref pa']) ∧ SetsH HC sa' S' ∧ PapH HC pa' 3000) ?_ (fun σ HC p => ?_)
                · have nas : sa' ≠ ak := XS.neq eB
                  walk_at "xx"
                  refine iteD (fun z => ?_) (fun z => ?_)
                  · walk_at "xx"
                    refine iteD (fun y => ?_) (fun y => ?_)
                    · obtain ⟨ws, ew, evw, lw⟩ := XB.pp
                      walk_at "xx"
                      refine ⟨h, d, pa, ws, rfl, XB.hd, ew, npa, evw, lw, fun p' H13 us k13 hh13 np nph e13 t13 l13 => ?_⟩
                      have X13 := XB.keep k13 hh13 nsh npa
                      have eB13 := k13.at eB nh.1.symm
                      have np' : p' ≠ ak := Ne.symm (ne_of_none eB np)
                      walk_at "xx"
                      refine st_L eB13 (j := 2) rfl fun H14 c14 e14 => ?_
                      exact ⟨_, p', rfl, X13.chg c14 eB13 nh nsk npk, e14, (XS.keep XB.hd k13 ns').chg c14 eB13 nas, us, c14.at e13 np', t13.tk (c14.tk eB13), l13⟩
                    · walk_at "xx"
                      exact ⟨_, pa, rfl, XB, eB, XS, XB.pp.mono (by decide)⟩
                  · walk_at "xx"
                    exact ⟨_, pa, rfl, XB, eB, XS, XB.pp.mono (by decide)⟩
                · obtain ⟨x8, pa', rfl, XC, eC, XS', XP⟩ := p
                  clear XB eB XS
                  obtain ⟨ws, ew, evw, lw⟩ := XP
                  obtain ⟨ps, tps, hps⟩ := evw.ps
                  have lps : ps.length ≤ 3000 := by have := tps.length; rw [List.length_map] at this; omega
                  have PA : PapAt K HC pa' ps := ⟨ws, lst_of ew, tps, hps⟩
                  obtain ⟨us, eu, tu⟩ := XC.st.ex
                  have lu : us.length = S.length := by have := tu.length; rwa [List.length_map] at this
                  walk_at "xx"
                  refine ⟨sa', pa', S', m', ps, rfl, XS'.at', PA, lps, fun HD sD => ?_⟩
                  have XD := XC.same sD
                  have eD := sD _ _ eC
                  walk_at "xx"
                  refine s_cut (fun σ HE => σ = [some (.ref a0), some (.ref h), some (.ref sa), some (.int m), some (.ref pa), some (.int (0 + (i : Int))), some (.ref ak), some (.int kd), some (.bl (acc S' m' ps [([], [])]))] ∧ Same HD HE) ?_ (fun σ HE p => ?_)
                  · walk_at "xx"
                    cases hd : acc S' m' ps [([], [])] with
                    | false =>
                      walk_at "xx"
                      exact ⟨rfl, Same.refl _⟩
                    | true =>
                      walk_at "xx"
                      refine b_lenL (lst_of (sD _ _ eu)) ?_
                      walk_at "xx"
                      refine iteD (fun z => ?_) (fun z => ?_)
                      · walk_at "xx"
                        refine ⟨sa', S', m', rfl, (XS'.same sD).at', by omega, fun b HE sE hb => ?_⟩
                        have hb : b = false := by
                          cases b with
                          | false => rfl
                          | true =>
                            obtain ⟨C, O⟩ := hb.mp rfl
                            exact absurd (acc_sound inv_start hd O) id
                        subst hb
                        walk_at "xx"
                        exact ⟨rfl, sE⟩
                      · walk_at "xx"
                        exact ⟨rfl, Same.refl _⟩
                  · obtain ⟨rfl, sE⟩ := p
                    have XE := XD.same sE
                    have eE := sE _ _ eD
                    have SE := sD.trans sE
                    walk_at "xx"
                    refine ⟨sa', pa', S', m', ps, rfl, (XS'.same SE).at', PA.same SE, lps, fun HF sF => ?_⟩
                    walk_at "xx"
                    exact ⟨_, _, _, _, rfl, XE.same sF⟩
          · obtain ⟨_, _, _, _, rfl, X⟩ := p
            walk_at "xx"
            exact q H'
end
end K39
open PySem PySem.W PySem.Calls PyProof.Rows
set_option maxHeartbeats 0 in
theorem PySem.Challenge.cw_wayorring_k39_shortest_papers_holds : PySem.Challenge.rw_wayorring_k39_shortest_papers.Holds := by
  w_on; o_law
  refine HandSHeadRun.head_any (r := OpenLaw.row PySem.Challenge.rw_wayorring_k39_shortest_papers) (q := view (OpenLaw.row PySem.Challenge.rw_wayorring_k39_shortest_papers).prog [19]) (H := K39.hk) (ob := K39.ob) (M := 20000) (loose := K39.loose) (d := HandSHeadRun.topDef (OpenLaw.row PySem.Challenge.rw_wayorring_k39_shortest_papers).prog 19) (kwd := []) K39.ob_eq
    (by kernel_rfl) (fun s => by kernel_rfl) K39.run (by kernel_rfl) (by kernel_rfl) (by kernel_rfl) (by rfl) (by first | assumption | decide +kernel) (by decide +kernel) ⟨rfl, rfl, rfl, rfl, rfl, by decide +kernel⟩ ?hw ?hc
  case hw => w_witness2
  case hc =>
    refine WG.walkG (l := PySem.Challenge.rw_wayorring_k39_shortest_papers) (n := 63) (k := 5) (x := "script") rfl (by decide) (by kernel_rfl) ⟨rfl, by decide, by decide⟩ ?F
    intro w mg fa h Y G hmg0
    obtain ⟨K, KX, c⟩ := Y
    have hmg : mg ("law" : PySem.Str) = some (.ref fa) := by
      have e : (HandSHeadRun.topDef (OpenLaw.row PySem.Challenge.rw_wayorring_k39_shortest_papers).prog 19).name = ("law" : PySem.Str) := by kernel_rfl
      rw [← e]
      exact hmg0
    have T := K39.tx_of KX G c
    obtain ⟨f, fd, F, e2⟩ := T.d_law.ex
    have e3 := hmg.symm.trans e2
    cases e3
    exact ⟨K, fd, K39.spLaw K, KX, fun s v => L2.FunD.bindsA (ps := ["script"]) F (fun _ _ _ _ _ _ us hl => match us, hl with | [_], _ => rfl) s [v] rfl, fun H a ns hl hS => ⟨a, ns, rfl, hS, hl, fun _ => rfl⟩, fun base => K39.ok_law T F⟩

