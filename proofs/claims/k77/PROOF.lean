import PyProof.Rows.All
import Wide.All
import OpenK.AllK
import Wide.FinOn
import HandS.ForMost
import HandS.Wide
import HandS.WideBits
import HandS.Gcd
import HandS.IsInst
import HandS.Style
import HandS.Evl
import Flt.RightSqrt
import HandS.More
import HandS.OwnEq
import HandS.Property
import HandS.Star
import KE.KOpsOwn
import HandS.ForExc
import HandS.HeadHook1
import HandS.Walk
import HandS.Zip
import KE.GoesEnum
import HandS.HeadEnd
import HandS.Words
import OpenK.KOps
import KE.KCallOwn
import KE.KFmtOwn
import HandS.FStr
import PyProof.ReprRoads
import PyProof.Rows.Range3
import KE.IntBitsLaws
import HandS.TupMul
import HandS.TupAny
import HandS.Text
import HandS.RaiseMore
import KE.KStateDown
import HandS.Base
import HandS.Call
import HandS.Ends
import HandS.Defaults
import HandS.Head0
import HandS.Head1
import HandS.Head2
import HandS.Head3
import HandS.HeadHook2
import PySem.Challenge.RW_formrings_k77_whole_turning_forms_and_fo
set_option Elab.async false
set_option linter.all false
set_option maxRecDepth 100000
set_option maxHeartbeats 4000000
namespace Fr
open PySem PySem.Spec PyProof.Rows L2
open Evl (Ex)
def Def (P : Program) (w : World) (K : PySem.W.Frag) (mg : Str → Option Value) (base : Heap) (k : Nat) (x : Str) (ps : List Str) (sp : Sp) : Prop :=
  ∃ f fd, mg x = some (.ref f) ∧ PySem.W.keepIn K (.ref f) = true ∧ Binds K fd ps [] ∧ FnOk P w K mg base CX0 k f fd ps sp
structure Fm (S : Addr → Prop) (I : Hp → Prop) : Prop where
  fresh : ∀ {H D}, I H → H D = none → ¬ S D
  stay : ∀ {H D o}, ¬ S D → I H → I (upd H D o)
def Fx (S : Addr → Prop) (I : Hp → Prop) (H H' : Hp) : Prop := I H' ∧ ∀ b o, ¬ S b → H b = some o → H' b = some o
section
variable {S : Addr → Prop} {I : Hp → Prop} {H H1 H2 : Hp}
theorem Fx.refl (i : I H) : Fx S I H H := ⟨i, fun _ _ _ h => h⟩
theorem Fx.trans (a : Fx S I H H1) (b : Fx S I H1 H2) : Fx S I H H2 := ⟨b.1, fun x o n h => b.2 x o n (a.2 x o n h)⟩
theorem Fx.new (m : Fm S I) (i : I H) {p : Addr} {o : HO} (h : H p = none) : Fx S I H (upd H p o) := ⟨m.stay (m.fresh i h) i, fun b u _ e => by
  rw [upd_ne (ne_of_none e h)]
  exact e⟩
theorem Fx.mut (m : Fm S I) (a : Fx S I H H1) (i : I H) {p : Addr} {o : HO} (h : H p = none) : Fx S I H (upd H1 p o) := ⟨m.stay (m.fresh i h) a.1, fun b u n e => by
  rw [upd_ne (ne_of_none e h)]
  exact a.2 b u n e⟩
theorem Fx.at (a : Fx S I H H1) {p : Addr} {o : HO} (n : ¬ S p) (h : H p = some o) : H1 p = some o := a.2 p o n h
theorem Fx.sqT {K : PySem.W.Frag} (a : Fx S I H H1) {p : Addr} {xs : List V} (n : ¬ S p) (h : SqT K H p xs) : SqT K H1 p xs := by
  rcases h with (h | ⟨o, h⟩) | h
  · exact .inl (.inl (a.2 _ _ n h))
  · exact .inl (.inr ⟨o, a.2 _ _ n h⟩)
  · exact .inr h
theorem Fx.sqL {K : PySem.W.Frag} (a : Fx S I H H1) {p : Addr} {xs : List V} (n : ¬ S p) (h : SqL K H p xs) : SqL K H1 p xs := by
  rcases h with (h | ⟨o, h⟩) | h
  · exact .inl (.inl (a.2 _ _ n h))
  · exact .inl (.inr ⟨o, a.2 _ _ n h⟩)
  · exact .inr h
theorem Fx.free (a : Fx S I H H1) {p : Addr} (n : ¬ S p) (h : H1 p = none) : H p = none := by
  cases e : H p with
  | none => rfl
  | some o => rw [a.2 p o n e] at h; cases h
theorem Fx.free' (m : Fm S I) (a : Fx S I H H1) {p : Addr} (h : H1 p = none) : H p = none := a.free (m.fresh a.1 h) h
end
abbrev S0 : Addr → Prop := fun _ => False
abbrev I0 : Hp → Prop := fun _ => True
theorem fm0 : Fm S0 I0 := ⟨fun _ _ h => h, fun _ _ => trivial⟩
abbrev Ex0 : Hp → Hp → Prop := Fx S0 I0
theorem Ex0.of {H H' : Hp} (h : ∀ b o, H b = some o → H' b = some o) : Ex0 H H' := ⟨trivial, fun b o _ e => h b o e⟩
theorem Ex0.ap {H H' : Hp} (h : Ex0 H H') {b : Addr} {o : HO} (e : H b = some o) : H' b = some o := h.2 b o (fun z => z) e
theorem Ex0.refl (H : Hp) : Ex0 H H := Fx.refl trivial
theorem Ex0.new {H : Hp} {p : Addr} {o : HO} (h : H p = none) : Ex0 H (upd H p o) := Fx.new fm0 trivial h
def Cs (S : Addr → Prop) (I : Hp → Prop) (H : Hp) (P : Nat → List V → Hp → Prop) (D : Addr) (i : Nat) (H' : Hp) : Prop := Fx S I H H' ∧ ∃ acc, H' D = some (.lst acc) ∧ acc.length ≤ i ∧ P i acc H'
section
variable {K : PySem.W.Frag} {S : Addr → Prop} {I : Hp → Prop} {σ : L2.St} {H : Hp} {Q : Addr → Hp → Prop} {te : TE} {vs : List Nat} {g : TG} {tt : TT} {P : Nat → List V → Hp → Prop}
theorem cs_yes (m : Fm S I) (i0 : I H) {D : Addr} {i : Nat} {acc : List V} {H' H4 : Hp} {y : V} (hD : H D = none) (p1 : Fx S I H H') (p2 : H' D = some (.lst acc)) (p3 : acc.length ≤ i) (hi : i < 1000000) (e : Fx S I H' H4) (h : P (i + 1) (acc ++ [y]) (upd H4 D (.lst (acc ++ [y])))) :
    ∃ acc', H4 D = some (.lst acc') ∧ acc'.length < sizeLine ∧ Cs S I H P D (i + 1) (upd H4 D (.lst (acc' ++ [y]))) :=
  ⟨acc, e.2 _ _ (m.fresh i0 hD) p2, Nat.lt_of_le_of_lt p3 (Nat.lt_of_lt_of_le hi (by decide)), Fx.mut m (p1.trans e) i0 hD, _, upd_same, by rw [List.length_append]; exact Nat.add_le_add_right p3 1, h⟩
theorem cs_no (m : Fm S I) (i0 : I H) {D : Addr} {i : Nat} {acc : List V} {H' H4 : Hp} (hD : H D = none) (p1 : Fx S I H H') (p2 : H' D = some (.lst acc)) (p3 : acc.length ≤ i) (e : Fx S I H' H4) (h : P (i + 1) acc H4) : Cs S I H P D (i + 1) H4 :=
  ⟨p1.trans e, acc, e.2 _ _ (m.fresh i0 hD) p2, Nat.le_succ_of_le p3, h⟩
theorem lcT (m : Fm S I) (i0 : I H) {a : Addr} {xs : List V} (hx : SqT K H a xs) (ha : ¬ S a) (P : Nat → List V → Hp → Prop) (p0 : ∀ D, H D = none → P 0 [] (upd H D (.lst [])))
    (hs : ∀ D i x acc H', H D = none → xs[i]? = some x → Fx S I H H' → H' D = some (.lst acc) → acc.length ≤ i → P i acc H' → g x (wipe σ vs) H' fun σ2 H2 => wipe σ2 vs = wipe σ vs ∧ tt σ2 H2 fun b H3 =>
      if b = true then te σ2 H3 fun y H4 => ∃ acc, H4 D = some (.lst acc) ∧ acc.length < sizeLine ∧ Cs S I H P D (i + 1) (upd H4 D (.lst (acc ++ [y]))) else Cs S I H P D (i + 1) H3)
    (q : ∀ D H' acc, H D = none → Fx S I H H' → H' D = some (.lst acc) → P xs.length acc H' → Q D H') :
    ∀ D, H D = none → ∃ W : Nat → Nat → Hp → Prop, (∃ m, W 0 m (upd H D (.lst []))) ∧ ∀ i m H, W i m H →
      ((Itt K a).stop i H ∧ Q D H) ∨ ((Itt K a).go i H ∧ ∃ Nx : Hp → Prop, (∀ H', Nx H' → ∃ m', m' < m ∧ W (i + 1) m' H') ∧ ∀ x H', (Itt K a).yld i H x H' → g x (wipe σ vs) H' fun σ2 H2 => wipe σ2 vs = wipe σ vs ∧ tt σ2 H2 fun b H3 =>
        if b = true then te σ2 H3 fun y H4 => ∃ acc, H4 D = some (.lst acc) ∧ acc.length < sizeLine ∧ Nx (upd H4 D (.lst (acc ++ [y]))) else Nx H3) := fun D hD =>
  lc_tup (xs := xs) (Cs S I H P D) ⟨Fx.new m i0 hD, [], upd_same, Nat.le_refl _, p0 D hD⟩ (fun i H' _ p => p.1.sqT ha hx)
    (fun i x H' hi p => by
      obtain ⟨p1, acc, p2, p3, p4⟩ := p
      exact hs D i x acc H' hD hi p1 p2 p3 p4)
    (fun H' p => by
      obtain ⟨p1, acc, p2, p3, p4⟩ := p
      exact q D H' acc hD p1 p2 p4)
theorem lcL (m : Fm S I) (i0 : I H) {a : Addr} {xs : List V} (hx : SqL K H a xs) (ha : ¬ S a) (P : Nat → List V → Hp → Prop) (p0 : ∀ D, H D = none → P 0 [] (upd H D (.lst [])))
    (hs : ∀ D i x acc H', H D = none → xs[i]? = some x → Fx S I H H' → H' D = some (.lst acc) → acc.length ≤ i → P i acc H' → g x (wipe σ vs) H' fun σ2 H2 => wipe σ2 vs = wipe σ vs ∧ tt σ2 H2 fun b H3 =>
      if b = true then te σ2 H3 fun y H4 => ∃ acc, H4 D = some (.lst acc) ∧ acc.length < sizeLine ∧ Cs S I H P D (i + 1) (upd H4 D (.lst (acc ++ [y]))) else Cs S I H P D (i + 1) H3)
    (q : ∀ D H' acc, H D = none → Fx S I H H' → H' D = some (.lst acc) → P xs.length acc H' → Q D H') :
    ∀ D, H D = none → ∃ W : Nat → Nat → Hp → Prop, (∃ m, W 0 m (upd H D (.lst []))) ∧ ∀ i m H, W i m H →
      ((Itl K a).stop i H ∧ Q D H) ∨ ((Itl K a).go i H ∧ ∃ Nx : Hp → Prop, (∀ H', Nx H' → ∃ m', m' < m ∧ W (i + 1) m' H') ∧ ∀ x H', (Itl K a).yld i H x H' → g x (wipe σ vs) H' fun σ2 H2 => wipe σ2 vs = wipe σ vs ∧ tt σ2 H2 fun b H3 =>
        if b = true then te σ2 H3 fun y H4 => ∃ acc, H4 D = some (.lst acc) ∧ acc.length < sizeLine ∧ Nx (upd H4 D (.lst (acc ++ [y]))) else Nx H3) := fun D hD =>
  lc_list (xs := xs) (Cs S I H P D) ⟨Fx.new m i0 hD, [], upd_same, Nat.le_refl _, p0 D hD⟩ (fun i H' _ p => p.1.sqL ha hx)
    (fun i x H' hi p => by
      obtain ⟨p1, acc, p2, p3, p4⟩ := p
      exact hs D i x acc H' hD hi p1 p2 p3 p4)
    (fun H' p => by
      obtain ⟨p1, acc, p2, p3, p4⟩ := p
      exact q D H' acc hD p1 p2 p4)
theorem lcR (m : Fm S I) (i0 : I H) {lo : Int} {n : Nat} (P : Nat → List V → Hp → Prop) (p0 : ∀ D, H D = none → P 0 [] (upd H D (.lst [])))
    (hs : ∀ D i acc H', H D = none → i < n → Fx S I H H' → H' D = some (.lst acc) → acc.length ≤ i → P i acc H' → g (.int (lo + i)) (wipe σ vs) H' fun σ2 H2 => wipe σ2 vs = wipe σ vs ∧ tt σ2 H2 fun b H3 =>
      if b = true then te σ2 H3 fun y H4 => ∃ acc, H4 D = some (.lst acc) ∧ acc.length < sizeLine ∧ Cs S I H P D (i + 1) (upd H4 D (.lst (acc ++ [y]))) else Cs S I H P D (i + 1) H3)
    (q : ∀ D H' acc, H D = none → Fx S I H H' → H' D = some (.lst acc) → P n acc H' → Q D H') :
    ∀ D, H D = none → ∃ W : Nat → Nat → Hp → Prop, (∃ m, W 0 m (upd H D (.lst []))) ∧ ∀ i m H, W i m H →
      ((Itr lo n).stop i H ∧ Q D H) ∨ ((Itr lo n).go i H ∧ ∃ Nx : Hp → Prop, (∀ H', Nx H' → ∃ m', m' < m ∧ W (i + 1) m' H') ∧ ∀ x H', (Itr lo n).yld i H x H' → g x (wipe σ vs) H' fun σ2 H2 => wipe σ2 vs = wipe σ vs ∧ tt σ2 H2 fun b H3 =>
        if b = true then te σ2 H3 fun y H4 => ∃ acc, H4 D = some (.lst acc) ∧ acc.length < sizeLine ∧ Nx (upd H4 D (.lst (acc ++ [y]))) else Nx H3) := fun D hD =>
  lc_range (lo := lo) (n := n) (Cs S I H P D) ⟨Fx.new m i0 hD, [], upd_same, Nat.le_refl _, p0 D hD⟩
    (fun i H' hi p => by
      obtain ⟨p1, acc, p2, p3, p4⟩ := p
      exact hs D i acc H' hD hi p1 p2 p3 p4)
    (fun H' p => by
      obtain ⟨p1, acc, p2, p3, p4⟩ := p
      exact q D H' acc hD p1 p2 p4)
end
theorem log_lt {i : Int} {a : Nat} (h : i.natAbs < 2 ^ a) (h0 : 0 < a) : i.natAbs.log2 < a := by
  by_cases z : i.natAbs = 0
  · rw [z]
    exact h0
  · exact (Nat.log2_lt z).mpr h
theorem mw {i j : Int} (h1 : -(2 ^ 250) < i) (h2 : i < 2 ^ 250) (h3 : -(2 ^ 250) < j) (h4 : j < 2 ^ 250) : CMulW i j :=
  wide_mul (a := 250) (b := 250) (by omega) (by omega) (by decide) (by decide) (by decide)
theorem dw {i j : Int} (h : 0 < j) (h4 : j < 2 ^ 250) : CDivW i j := wide_div (b := 250) h (by omega) (by decide) (by decide)
theorem iteB {b : Bool} {A B : Prop} (h1 : b = true → A) (h2 : b = false → B) : if b = true then A else B := by
  cases b with
  | true => rw [if_pos rfl]; exact h1 rfl
  | false => rw [if_neg Bool.false_ne_true]; exact h2 rfl
theorem iteD {c : Prop} [Decidable c] {A B : Prop} (h1 : c → A) (h2 : ¬ c → B) : if decide c = true then A else B :=
  iteB (fun h => h1 (of_decide_eq_true h)) (fun h => h2 (of_decide_eq_false h))
theorem iteN {c : Prop} [Decidable c] {A B : Prop} (h1 : ¬ c → A) (h2 : c → B) : if (!decide c) = true then A else B := by
  by_cases h : c
  · rw [decide_eq_true h]; exact iteF (h2 h)
  · rw [decide_eq_false h]; exact iteT (h1 h)
theorem dT {c : Prop} [Decidable c] {A B : Prop} (h : c) (a : A) : if decide c = true then A else B := by rw [decide_eq_true h, if_pos rfl]; exact a
theorem dF {c : Prop} [Decidable c] {A B : Prop} (h : ¬ c) (a : B) : if decide c = true then A else B := by rw [decide_eq_false h, if_neg Bool.false_ne_true]; exact a
theorem ndT {c : Prop} [Decidable c] {A B : Prop} (h : ¬ c) (a : A) : if (!decide c) = true then A else B := by rw [decide_eq_false h]; exact iteT a
theorem ndF {c : Prop} [Decidable c] {A B : Prop} (h : c) (a : B) : if (!decide c) = true then A else B := by rw [decide_eq_true h]; exact iteF a
theorem sl1 : 1 ≤ sizeLine := by decide
theorem sl2 : 2 ≤ sizeLine := by decide
theorem sl3 : 3 ≤ sizeLine := by decide
theorem sl4 : 4 ≤ sizeLine := by decide
theorem sl5 : 5 ≤ sizeLine := by decide
theorem sl6 : 6 ≤ sizeLine := by decide
theorem sl8 : 8 ≤ sizeLine := by decide
theorem slN {n : Nat} (h : n ≤ 1000000) : n ≤ sizeLine := Nat.le_trans h (by decide)
section
variable {X : Cx}
def rIsqrt : List V → Hp → VK → Prop := fun vs H Q => ∃ a : Int, vs = [.int a] ∧ 0 ≤ a ∧ a < 2 ^ 64 ∧ ∀ r : Int, 0 ≤ r → r * r ≤ a → a < (r + 1) * (r + 1) → Q (.int r) H
theorem cr_isqrt : CallR X (.builtin "math.isqrt") rIsqrt := by
  intro pins s σ H vs us Q I r h
  obtain ⟨a, rfl, h0, h1, q⟩ := h
  obtain ⟨u, rfl, ru⟩ := Vals.one r
  obtain ⟨t, rfl⟩ := ru
  have sp := PySem.Float64.isqrt_spec a.toNat
  refine PySem.W.mg_isqrt h0 h1 ⟨.int _, H, I.tok _, ⟨_, rfl⟩, q _ (Int.natCast_nonneg _) ?_ ?_⟩
  · have := sp.1
    have e : ((Float64.isqrt a.toNat * Float64.isqrt a.toNat : Nat) : Int) ≤ (a.toNat : Int) := Int.ofNat_le.mpr this
    rw [Int.toNat_of_nonneg h0] at e
    simpa using e
  · have := sp.2
    have e : (a.toNat : Int) < (((Float64.isqrt a.toNat + 1) * (Float64.isqrt a.toNat + 1) : Nat) : Int) := Int.ofNat_lt.mpr this
    rw [Int.toNat_of_nonneg h0] at e
    simpa using e
end
end Fr
namespace Fr
open PySem PySem.Spec PyProof.Rows L2
section
variable {X : Cx}
def CPowC (i j : Int) : Prop := 0 ≤ j ∧ (Builtin.Int.intBits i : Int) * j ≤ 2 ^ 27
theorem op_powC : OpR X (binaryOp .Pow) (rI CPowC fun i j => .int (i ^ j.toNat)) := opI fun _ _ _ _ _ _ _ hc q => PyProof.Rows.pow_int hc.1 hc.2 q
end
end Fr
namespace Fr
open PySem PySem.Spec PyProof.Rows L2
theorem deI {i j : Int} : decide (V.int i = V.int j) = decide (i = j) := by
  rw [dec_int]
  rfl
theorem iteE {i j : Int} {A B : Prop} (h1 : i = j → A) (h2 : i ≠ j → B) : if decide (V.int i = V.int j) = true then A else B := by
  rw [deI]
  exact iteD h1 h2
theorem iteEn {i j : Int} {A B : Prop} (h1 : i ≠ j → A) (h2 : i = j → B) : if (!decide (V.int i = V.int j)) = true then A else B := by
  rw [deI]
  exact iteN h1 h2
end Fr
namespace Fr
open PySem PySem.Spec PyProof.Rows L2
def inb (lo hi : Int) : V → Bool
  | .int i => decide (lo ≤ i) && decide (i ≤ hi)
  | _ => false
theorem in_b {lo hi : Int} {xs : List V} {v : V} (hv : v ∈ xs) (h : xs.all (inb lo hi) = true) : ∃ f : Int, v = .int f ∧ lo ≤ f ∧ f ≤ hi := by
  have := List.all_eq_true.mp h v hv
  cases v with
  | int i =>
    unfold inb at this
    rw [Bool.and_eq_true, decide_eq_true_iff, decide_eq_true_iff] at this
    exact ⟨i, rfl, this.1, this.2⟩
  | _ => cases this
theorem shaped_ints (ns : List Int) : SeqAt.shaped (.list (ns.map .int)) = true := by
  have h : PyData.canLayAll0 (ns.map PyData.int) = true ∧ PyData.depthAll (ns.map PyData.int) ≤ 1 := by
    induction ns with
    | nil => exact ⟨rfl, by simp [PyData.depthAll]⟩
    | cons n r ih =>
      refine ⟨?_, ?_⟩
      · rw [List.map_cons, PyData.canLayAll0, PyData.canLay0, ih.1]; rfl
      · rw [List.map_cons, PyData.depthAll, PyData.depth]; exact Nat.max_le.mpr ⟨by decide, ih.2⟩
  unfold SeqAt.shaped
  rw [PyData.canLay0, PyData.depth, h.1]
  simp
  omega
theorem dp_ints {K : PySem.W.Frag} {H : Hp} : ∀ ns : List Int, DpAll K H (ns.map V.int) (ns.map PyData.int)
  | [] => .nil
  | n :: r => .cons (.int n) (dp_ints r)
theorem eqv_ints : ∀ ns ms : List Int, PyData.eqvAll (ns.map PyData.int) (ms.map PyData.int) = decide (ns = ms)
  | [], [] => rfl
  | [], m :: ms => rfl
  | n :: ns, [] => rfl
  | n :: ns, m :: ms => by
    rw [List.map_cons, List.map_cons, PyData.eqvAll, PyData.eqv, eqv_ints ns ms]
    apply Bool.eq_iff_iff.mpr
    simp
def pr2 (q : Nat × Nat) : PyData := .tuple [.int (q.1 : Int), .int (q.2 : Int)]
theorem shaped_prs (fs : List (Nat × Nat)) : SeqAt.shaped (.tuple (fs.map pr2)) = true := by
  have h : PyData.canLayAll0 (fs.map pr2) = true ∧ PyData.depthAll (fs.map pr2) ≤ 2 := by
    induction fs with
    | nil => exact ⟨rfl, by simp [PyData.depthAll]⟩
    | cons n r ih =>
      refine ⟨?_, ?_⟩
      · rw [List.map_cons, PyData.canLayAll0, ih.1]; simp [pr2, PyData.canLay0, PyData.canLayAll0]
      · rw [List.map_cons, PyData.depthAll]; exact Nat.max_le.mpr ⟨by simp [pr2, PyData.depth, PyData.depthAll], ih.2⟩
  unfold SeqAt.shaped
  rw [PyData.canLay0, PyData.depth, h.1]
  simp
  omega
theorem eqv_prs : ∀ fs gs : List (Nat × Nat), PyData.eqvAll (fs.map pr2) (gs.map pr2) = decide (fs = gs)
  | [], [] => rfl
  | [], m :: ms => rfl
  | n :: ns, [] => rfl
  | (a, b) :: ns, (c, d) :: ms => by
    rw [List.map_cons, List.map_cons, PyData.eqvAll, eqv_prs ns ms]
    apply Bool.eq_iff_iff.mpr
    simp [pr2, PyData.eqv, PyData.eqvAll]
    omega
end Fr
namespace Fr
open PySem PySem.Spec PyProof.Rows L2
def B (a : Nat) (i : Int) : Prop := i.natAbs < 2 ^ a ∧ 0 < a
theorem two_pow_two {a : Nat} (h : 0 < a) : 2 ≤ 2 ^ a := by
  obtain ⟨k, rfl⟩ : ∃ k, a = k + 1 := ⟨a - 1, by omega⟩
  rw [Nat.pow_succ]
  have := Nat.two_pow_pos k
  omega
theorem pow_sum {a b : Nat} (ha : 0 < a) (hb : 0 < b) : 2 ^ a + 2 ^ b ≤ 2 ^ (a + b) := by
  rw [Nat.pow_add]
  have h1 := two_pow_two ha
  have h2 := two_pow_two hb
  generalize 2 ^ a = x at *
  generalize 2 ^ b = y at *
  have := Nat.mul_le_mul h1 (Nat.le_refl y)
  have := Nat.mul_le_mul (Nat.le_refl x) h2
  rcases Nat.le_total x y with h | h <;> omega
theorem B.mul {a b : Nat} {i j : Int} (h1 : B a i) (h2 : B b j) : B (a + b) (i * j) := ⟨wide_lt h1.1 h2.1, Nat.add_pos_left h1.2 _⟩
theorem B.add {a b : Nat} {i j : Int} (h1 : B a i) (h2 : B b j) : B (a + b) (i + j) :=
  ⟨Nat.lt_of_lt_of_le (by have := h1.1; have := h2.1; omega : (i + j).natAbs < 2 ^ a + 2 ^ b) (pow_sum h1.2 h2.2), Nat.add_pos_left h1.2 _⟩
theorem B.sub {a b : Nat} {i j : Int} (h1 : B a i) (h2 : B b j) : B (a + b) (i - j) :=
  ⟨Nat.lt_of_lt_of_le (by have := h1.1; have := h2.1; omega : (i - j).natAbs < 2 ^ a + 2 ^ b) (pow_sum h1.2 h2.2), Nat.add_pos_left h1.2 _⟩
theorem B.neg {a : Nat} {i : Int} (h1 : B a i) : B a (-i) := ⟨by rw [Int.natAbs_neg]; exact h1.1, h1.2⟩
theorem B.lit {i : Int} (h : i.natAbs < 2 ^ 64) : B 64 i := ⟨h, by decide⟩
theorem B.mono {a b : Nat} {i : Int} (h : B a i) (hab : a ≤ b) : B b i := ⟨Nat.lt_of_lt_of_le h.1 (Nat.pow_le_pow_right (by decide) hab), Nat.lt_of_lt_of_le h.2 hab⟩
theorem mulB {a b : Nat} {i j : Int} (h1 : B a i) (h2 : B b j) (h : a + b ≤ 1000000) : CMulW i j := wide_mul h1.1 h2.1 h1.2 h2.2 h
end Fr
namespace Fr
open PySem PySem.Spec PyProof.Rows L2
theorem shaped_tints (ns : List Int) : SeqAt.shaped (.tuple (ns.map .int)) = true := by
  have h : PyData.canLayAll0 (ns.map .int) = true ∧ PyData.depthAll (ns.map .int) ≤ 1 := by
    induction ns with
    | nil => exact ⟨rfl, by simp [PyData.depthAll]⟩
    | cons n r ih =>
      refine ⟨?_, ?_⟩
      · rw [List.map_cons, PyData.canLayAll0, ih.1]; simp [PyData.canLay0]
      · rw [List.map_cons, PyData.depthAll]; exact Nat.max_le.mpr ⟨by simp [PyData.depth], ih.2⟩
  unfold SeqAt.shaped
  rw [PyData.canLay0, PyData.depth, h.1]
  simp
  omega
end Fr
namespace Fr
open PySem PySem.Spec PyProof.Rows L2
section
variable {M : Model} {prog : Program} {w : World} {A : Around} {E : Value → Shared → Prop} {s : Shared} {K : PySem.W.Frag} {x C f : Addr} {ox : Obj} {od : Option Obj}
theorem ifBound_ne {args : List Value} {Q : Option Value → Shared → Prop} (X : K.In s.heap) (I : PySem.W.InstAt s.heap x ox C od) (hs : PySem.W.findIn K (.ref C) "__ne__" = some (some (.builtin "object.__ne__")))
    (h : wpAny M A (call (.builtin "object.__ne__") (.ref x :: args)) (fun v => Q (some v)) E s) : wpAny M A (callSpecialIfBound? (.ref x) "__ne__" args) Q E s := by
  simp only [callSpecialIfBound?, bindSpecialIfBound?]
  refine wpAny_holding (wpAny_bind (wpAny_bind (wpAny_bind (I.type.here ((PySem.W.looks_findIn X hs).here ?_)))))
  refine wpAny_bind (wpAny_askSetting (wpAny_ite ?_))
  have fin : wpAny M A (call (.builtin "object.__ne__") ([.ref x] ++ args) >>= fun v => pure (some v)) Q E s := wpAny_bind (wpAny_mono h (fun v s' h' => wpAny_pure h') fun _ _ h' => h')
  split
  · exact wpAny_bind (wpAny_of_eq (F.cmp_object.ne.bind _) (wpAny_pure (by exact fin)))
  · exact wpAny_tryCatch (wpAny_bind (wpAny_of_eq (F.cmp_object.ne.bind _) (wpAny_pure (by exact fin))))
def NeB (Q : Value → Shared → Prop) (v : Value) (s' : Shared) : Prop := ∃ b, v = .bool b ∧ Q (.bool (!b)) s'
theorem entry_ne {b : Value} {Q : Fin → Shared → Prop} (hu : A.units < cLine) (X : K.In s.heap) (I : PySem.W.InstAt s.heap x ox C od) (hs : PySem.W.findIn K (.ref C) "__eq__" = some (some (.ref f))) (hf : PySem.W.isFn K (.ref f) = true)
    (h : wpAny (model prog w) A (call (.ref f) [.ref x, b]) (NeB fun v s' => Q (.done (.ret v)) s') E s) : wpAny (model prog w) A (Builtin.«object.__ne__» ⟨[.ref x, b], []⟩) Q E s := by
  unfold Builtin.«object.__ne__»
  repeat (first | with_reducible refine wpAny_cRoomFor hu ?_ | (refine wpAny_bind (PySem.W.ifBound_K X I hs hf (wpAny_mono h (fun v s' hv => ?_) fun _ _ e => e))) | wp_step)
  all_goals (obtain ⟨b', rfl, q⟩ := hv)
  all_goals (repeat (first | wp_step))
  all_goals exact q
theorem ne_K {h₀ : Heap} {L : Addr} {m : Str → Option Value} {b tb : Value} {Q : Value → Shared → Prop} (hu : A.units + 1 < cLine) (F : Fr h₀ L s.heap m) (X₀ : K.In h₀) (I : PySem.W.InstAt s.heap x ox C od) (hb : PySem.W.Looks (model prog w) s.heap (typeOf b) tb) (hn : PySem.W.notFirst K C tb = true)
    (hne : PySem.W.findIn K (.ref C) "__ne__" = some (some (.builtin "object.__ne__"))) (hs : PySem.W.findIn K (.ref C) "__eq__" = some (some (.ref f))) (hf : PySem.W.isFn K (.ref f) = true) (hm : PySem.W.mroIn K C (.type "object") = some true)
    (h : wpAny (model prog w) A.in1 (call (.ref f) [.ref x, b]) (NeB Q) E s) : wpAny (model prog w) A (richCompare .NotEq (.ref x) b) Q E s := by
  have X := X₀.keeps F.keep
  have one : wpAny (model prog w) A (tryCompare (.ref x) "__ne__" b) (fun r s' => ∃ v, r = some v ∧ Q v s') E s := by
    unfold tryCompare
    refine wpAny_bind (ifBound_ne X I hne (wpAny_call (codeAny_call_builtin PySem.F.cmp_object.ne.plain PySem.F.cmpEntry_ne (PySem.W.check_slot PySem.F.cmpKind_ne PySem.F.cmpSplit_ne (I.type.andThen (PySem.W.looks_mroIn X hm)) (PySem.F.cmpArgs_ne _ _) ?_))))
    refine entry_ne (A := A.in1) hu X I hs hf (wpAny_mono h (fun v s' hv => ?_) fun _ _ e => e)
    obtain ⟨b', rfl, q⟩ := hv
    exact ⟨b', rfl, wpAny_pure ⟨_, rfl, q⟩⟩
  unfold richCompare
  simp only [oneThing_ref]
  refine wpAny_holding (wpAny_bind (wpAny_cRoomFor (Nat.lt_of_succ_lt hu) ?_))
  refine wpAny_bind (I.type.here (wpAny_bind (hb.here ?_)))
  split
  · rename_i q
    have e : PySem.W.subIn K tb (.ref C) = some false := by
      rcases Bool.or_eq_true_iff.mp hn with e | e
      · rw [beq_iff_eq.mp e] at q; simp at q
      · exact beq_iff_eq.mp e
    refine wpAny_bind ((PySem.W.looks_subIn X e).here ?_)
    simp only [Bool.false_eq_true, if_false]
    refine wpAny_bind (wpAny_mono one (fun r s' z => ?_) fun _ _ e => e)
    obtain ⟨v, rfl, hq⟩ := z
    exact wpAny_pure hq
  · refine wpAny_bind (wpAny_pure ?_)
    simp only [Bool.false_eq_true, if_false]
    refine wpAny_bind (wpAny_mono one (fun r s' z => ?_) fun _ _ e => e)
    obtain ⟨v, rfl, hq⟩ := z
    exact wpAny_pure hq
end
section
variable {X : Cx} {CX : CXT} {C f : Addr} {fd : FuncData} {ps : List Str} {k : Nat} {sp : Sp} {E : XK}
structure EqC (K : PySem.W.Frag) (C f : Addr) : Prop where
  eq : PySem.W.findIn K (.ref C) "__eq__" = some (some (.ref f))
  fn : PySem.W.isFn K (.ref f) = true
  ne : PySem.W.findIn K (.ref C) "__ne__" = some (some (.builtin "object.__ne__"))
  mo : PySem.W.mroIn K C (.type "object") = some true
def rEqI (K : PySem.W.Frag) (C : Addr) (sp : Sp) (E : XK) (neg : Bool) : R2 := fun x y H Q => ∃ a dx fs tb, x = .ref a ∧ H a = some (.ins C dx fs) ∧ TyX K H y tb ∧ PySem.W.notFirst K C tb = true ∧ sp [x, y] H (fun v H' => ∃ b, v = .bl b ∧ Q (.bl (if neg = true then !b else b)) H') E
theorem op_eqI (c : EqC X.K C f) (F : FnOk X.prog X.w X.K X.mg X.base CX k f fd ps sp) (hb : Binds X.K fd ps []) (hr : Room k X.A) (hx : Passes CX X E) : OpR X (compareOp .Eq) (rEqI X.K C sp E false) := by
  intro pins s σ H x y v u Q I rx ry h
  obtain ⟨a, dx, fs, tb, rfl, ha, ty, hn, q⟩ := h
  cases (show v = Value.ref a from rx)
  obtain ⟨mA, J, _⟩ := ins_get I.hok ha
  obtain ⟨od, J, _⟩ := J.look
  obtain ⟨m, hF⟩ := I.fr
  obtain ⟨P, kt, hP, _⟩ := kit_of I ry ty
  refine PySem.W.cmp_K (op := .Eq) hr.units0 hF I.ok.mod.kin J (kt.ty _ _ I.kIn hP) hn c.eq c.fn ?_
  refine wpAny_mono (run_fn (us := [.ref a, u]) (vs := [.ref a, y]) F hr hb .nil hx I (.cons rfl (.cons ry .nil)) q) (fun w s' z => ?_) fun _ _ x => x
  obtain ⟨z', H', I', rz, b, rfl, qz⟩ := z
  cases (show w = Value.bool b from rz)
  exact ⟨.bl b, H', I', rfl, qz⟩
theorem op_neI (c : EqC X.K C f) (F : FnOk X.prog X.w X.K X.mg X.base CX k f fd ps sp) (hb : Binds X.K fd ps []) (hr : Room (k + 1) X.A) (hx : Passes CX X E) : OpR X (compareOp .NotEq) (rEqI X.K C sp E true) := by
  intro pins s σ H x y v u Q I rx ry h
  obtain ⟨a, dx, fs, tb, rfl, ha, ty, hn, q⟩ := h
  cases (show v = Value.ref a from rx)
  obtain ⟨mA, J, _⟩ := ins_get I.hok ha
  obtain ⟨od, J, _⟩ := J.look
  obtain ⟨m, hF⟩ := I.fr
  obtain ⟨P, kt, hP, _⟩ := kit_of I ry ty
  refine ne_K (Nat.lt_of_le_of_lt (Nat.add_le_add_left (by decide : 1 ≤ 64) _) hr.units) hF I.ok.mod.kin J (kt.ty _ _ I.kIn hP) hn c.ne c.eq c.fn c.mo ?_
  refine wpAny_call (codeAny_mono ((F.raw hb .nil) X.A.in1 X.stack s H [.ref a, u] [.ref a, y] _ E hr.in1 I.env0.in1 (.cons rfl (.cons ry .nil)) q) fun r s' hq => ?_)
  cases r with
  | error e => exact hx pins σ H s e s' I hq
  | ok fl =>
    cases fl with
    | ret w =>
      obtain ⟨z', H', I', rz, b, rfl, qz⟩ := I.after hq
      cases (show w = Value.bool b from rz)
      exact ⟨b, rfl, .bl (!b), H', I', rfl, qz⟩
    | next => exact False.elim hq
    | brk => exact False.elim hq
    | cont => exact False.elim hq
structure TyI (K : PySem.W.Frag) (C : Addr) : Prop where
  ca : PySem.W.findIn K (.ref C) "__class__" = some (some (.builtin "object.__class__"))
  cn : PySem.W.specialIn K (.builtin "object.__class__") "__get__" = some (some (.builtin "getset_descriptor.__get__"))
  ct : PySem.W.takesIn K (.builtin "object.__class__") = some true
  cm : PySem.W.mroIn K C (.type "object") = some true
theorem ty_ins {K : PySem.W.Frag} {C a dx : Addr} {H : Hp} {fs : List (Str × V)} (t : TyI K C) (cl : Cls K C) (e : H a = some (.ins C dx fs)) : TyX K H (.ref a) (.ref C) := .base (.ins e cl t.ca t.cn t.ct t.cm)
theorem first_self {K : PySem.W.Frag} {C : Addr} : PySem.W.notFirst K C (.ref C) = true := by simp [PySem.W.notFirst]
theorem kit_self {K : PySem.W.Frag} {C : Addr} : PySem.W.kitOne K (.ref C) (.ref C) = some true := by simp [PySem.W.kitOne]
theorem un_negI (c : Meth X.K C "__neg__" f) (F : FnOk X.prog X.w X.K X.mg X.base CX k f fd ps sp) (hb : Binds X.K fd ps []) (hr : Room k X.A) (hx : Passes CX X E) :
    UnR X (unaryOp .USub) (fun x H Q => ∃ a dx fs, x = .ref a ∧ H a = some (.ins C dx fs) ∧ sp [x] H Q E) := by
  intro pins s σ H x v Q I rx h
  obtain ⟨a, dx, fs, rfl, ha, q⟩ := h
  cases (show v = Value.ref a from rx)
  obtain ⟨mA, J, _⟩ := ins_get I.hok ha
  obtain ⟨od, J, _⟩ := J.look
  obtain ⟨m, hF⟩ := I.fr
  exact PySem.W.ksp_neg hF I.ok.mod.kin J c.at_ c.fn (run_fn (us := [.ref a]) (vs := [.ref a]) F hr hb .nil hx I (.cons rfl .nil) q)
def MDef (R : Addr → Addr → Prop) (P : Program) (w : World) (K : PySem.W.Frag) (mg : Str → Option Value) (base : Heap) (k : Nat) (ps : List Str) (sp : Sp) : Prop :=
  ∃ p f fd, R p f ∧ Binds K fd ps [] ∧ FnOk P w K mg base CX0 k f fd ps sp
end
section
variable {X : Cx} {K : PySem.W.Frag}
theorem call_isiKK (hK : X.K = K) : CallR X (.builtin "isinstance") (rIsi K) := hK ▸ call_isi
end
section
variable {X : Cx}
theorem pi_or {tg l : Expr} {wa wb : TI} (a : PI X tg l wa) (b : PI X tg l wb) : PI X tg l (fun σ H R => wa σ H R ∨ wb σ H R) := ⟨fun pins s σ H R I h => h.elim (fun z => a.run pins s σ H R I z) (fun z => b.run pins s σ H R I z)⟩
end
abbrev XA (K : PySem.W.Frag) (x : Str) : Addr := He.ga K x
structure Xc (K : PySem.W.Frag) (mg : Str → Option Value) (x : Str) (bm : List Value) (newId : String) : Prop where
  g : mg x = some (.ref (XA K x))
  ex : PySem.W.excIn K (XA K x) bm newId = true
  kp : PySem.W.keepIn K (.ref (XA K x)) = true
  sb : PySem.W.subIn K (.ref (XA K x)) (.type "BaseException") = some true
  ty : PySem.W.typeIn K (.ref (XA K x)) = some (.type "type")
  te : PySem.W.exmOne K (.ref (XA K x)) (.ref (XA K x)) = some true
def DefX (P : Program) (w : World) (K : PySem.W.Frag) (mg : Str → Option Value) (base : Heap) (k : Nat) (x : Str) (ps : List Str) (sp : Sp) : Prop :=
  ∃ f fd, mg x = some (.ref f) ∧ PySem.W.keepIn K (.ref f) = true ∧ Binds K fd ps [] ∧ FnOk P w K mg base (L2.CX P w) k f fd ps sp
end Fr
set_option Elab.async false
set_option linter.all false
set_option maxRecDepth 100000
namespace Fr
open PySem PySem.Spec PyProof.Rows L2
set_option maxHeartbeats 1000000 in
theorem meets_en1 {v : Value} {o : Obj} {H : Heap → Prop} (B : Begins v o H) :
    Meets (Builtin.«enumerate.__new__» ⟨[.type "enumerate", v], []⟩) (fun _ R s => H s.heap ∧
      R (.ok (.ret (.ref (s.heap.push o).objs.size))) { s with heap := (s.heap.push o).push { cls := .type "enumerate", data := .fields #[.none, .bool false, .ref s.heap.objs.size, rawInt 0, .none, .none] } }) :=
  .of_wp fun prog w A R s h => by
    obtain ⟨hp, g, d, tk, os⟩ := s; obtain ⟨h1, h⟩ := h
    have hsub := sub_enumerate
    have q1 : ∀ {A' : Around} {E : Value → Shared → Prop} {Q : Value → Shared → Prop}, Q (.ref hp.objs.size) ⟨hp.push o, g, d, tk, os⟩ → wpAny (model prog w) A' (pyIter v) Q E ⟨hp, g, d, tk, os⟩ :=
      fun q => B.iter prog w _ _ ⟨hp, g, d, tk, os⟩ _ h1 q
    wp_walk using q1
    refine wpAny_stack_any fun st => wpAny_pure ?_
    split
    · rename_i c _ _ _ _ _
      cases (c == Value.type "enumerate")
      · wp_walk using q1
        exact ⟨_, rfl, h⟩
      · wp_walk using q1
        exact ⟨_, rfl, h⟩
    · wp_walk using q1
      exact ⟨_, rfl, h⟩
theorem call_en1 {prog : Program} {w : World} {A : Around} {E : Value → Shared → Prop} {s : Shared} {v : Value} {o : Obj} {H : Heap → Prop} {Q : Value → Shared → Prop} (B : Begins v o H) (h1 : H s.heap)
    (h : ∀ h', IsEnum h' (s.heap.objs.size + 1) s.heap.objs.size 0 .none → h'.get? s.heap.objs.size = some o → h'.objs.size = s.heap.objs.size + 2 →
      (∀ b o, s.heap.get? b = some o → h'.get? b = some o) → Q (.ref (s.heap.objs.size + 1)) { s with heap := h' }) :
    wpAny (model prog w) A (call (.type "enumerate") [v]) Q E s := by
  refine callType_new F.called_enumerate (by decide) (F.typeCall_enumerate_1 _) (F.newCall_enumerate_1 _) (fun obj => F.args_object_init_2 obj _) F.entry_enumerate_new (meets_en1 B) ⟨h1, ?_⟩
  have hz : (s.heap.push o).objs.size = s.heap.objs.size + 1 := Heap.size_push ..
  show _ ∧ _
  rw [hz]
  have he : IsEnum ((s.heap.push o).push { cls := .type "enumerate", data := .fields #[.none, .bool false, .ref s.heap.objs.size, rawInt 0, .none, .none] }) (s.heap.objs.size + 1) s.heap.objs.size 0 .none := by
    have := Heap.get?_push_size (s.heap.push o) (o := { cls := .type "enumerate", data := .fields #[.none, .bool false, .ref s.heap.objs.size, rawInt 0, .none, .none] }) rfl
    rw [hz] at this; exact this
  exact ⟨⟨_, he, rfl⟩, h _ he (Heap.get?_push_of_some _ (Heap.get?_push_size _ B.free)) (by rw [Heap.size_push, hz]) fun b o x => Heap.get?_push_of_some _ (Heap.get?_push_of_some _ x)⟩
def IteT (K : PySem.W.Frag) (a : Addr) : It :=
  ⟨fun i H => ∃ (xs : List V) (x : V), SqT K H a xs ∧ xs[i]? = some x, fun i H v H' => ∃ T x, v = .ref T ∧ H T = none ∧ H' = upd H T (.tup [.int (i : Nat), x]) ∧ ∀ xs, SqT K H a xs → xs[i]? = some x, fun i H => ∃ xs : List V, SqT K H a xs ∧ xs.length = i⟩
theorem turn_enumT {P : Program} {w : World} {K : PySem.W.Frag} {elts : List Expr} {kk : Nat} {tpos : Pos} (a e it : Addr) (hae : a ≠ it) :
    Turn P w K (.Tuple elts kk tpos) (IteT K a) [e, it] e (fun i h => (∃ old, IsEnum h e it ((i : Nat) : Int) old) ∧ h.IsTupleIter it a i ∧ e ≠ it) where
  mem := by simp
  obj := fun i h st b hb => by
    obtain ⟨⟨old, he⟩, ⟨o, ho, hc, hd⟩, _⟩ := st
    have e' : b = e ∨ b = it := by simpa using hb
    rcases e' with z | z
    · rw [z]; exact ⟨_, he, fun v q => nomatch q⟩
    · rw [z]; exact ⟨o, ho, fun v q => by rw [hd] at q; cases q⟩
  keep := fun i h h' st k => let ⟨⟨old, he⟩, hi, hne⟩ := st; ⟨⟨old, k e (by simp) _ he⟩, hi.at fun o q => k it (by simp) o q, hne⟩
  item := by
    intro X hP hw hK hc i pins s σ H E I hf st hg
    subst hP hw hK
    obtain ⟨⟨old, he⟩, hit, hne⟩ := st
    obtain ⟨xs, x, hq, hx⟩ := hg
    obtain ⟨its, rv, p, hz⟩ := I.tuple hq
    obtain ⟨u, hu, ru⟩ := rv.get hx
    have hel : e < s.heap.objs.size := Heap.lt_size he
    have hi : i < its.toArray.size := by
      have := (List.getElem?_eq_some_iff.mp hu).1
      simpa using this
    have hea : e ∉ [it, a] := fun z => by
      have z' : e = it ∨ e = a := by simpa using z
      rcases z' with z | z
      · exact hne z
      · obtain ⟨o, ho, hc', _⟩ := id p
        rw [← z, he] at ho
        cases ho
        injection hc' with z2
        exact absurd z2 (by decide)
    have D := Draws.tuple (prog := X.prog) (w := X.w) (A := X.A.in1) (I.ok.hd hc) it a hae its.toArray
    refine wpAny_pyNext_enum_itemC D he ⟨hit, p⟩ hi hne hea fun y h' tk hy ho hit' hT hsz hk => ?_
    obtain rfl : u = y := by
      have hu' : its.toArray[i]? = some u := by simpa using hu
      have hy' : its.toArray[i]? = some y := hy
      rw [hu'] at hy'
      exact Option.some.inj hy'
    refine ⟨_, rfl, wpAny_letOwnedTupleGo_enum (s := { s with heap := h', toks := tk + 1 }) ho fun h'' he' sb => ?_⟩
    have hT2 : h''.get? s.heap.objs.size = some { cls := .type "tuple", data := .seq #[.int i tk, u] } := (sb.2 _ (Nat.ne_of_gt hel)).trans hT
    have new : ObjOk X.prog X.w (upd H s.heap.objs.size (.tup [.int (i : Nat), x])) h'' s.heap.objs.size (.tup [.int (i : Nat), x]) :=
      ⟨by show 2 ≤ sizeLine; decide, [.int i tk, u], .cons ⟨_, rfl⟩ (.cons ru .nil), ⟨_, hT2, rfl, _, rfl⟩⟩
    have I1 : Inv X pins σ (upd H s.heap.objs.size (.tup [.int (i : Nat), x])) { s with heap := h'', toks := tk + 1 } :=
      I.turnedNew (ch := [e, it]) (fun b ob hb q => (sb.2 b (fun z => hb (by simp [z]))).trans (hk b ob (fun z => hb (by simp [z])) (fun z => hb (by simp [z])) q)) hf (Nat.le_refl _) new
    refine ⟨.ref s.heap.objs.size, _, I1, rfl, ⟨_, x, rfl, I.hok.fresh (Nat.le_refl _), rfl, fun ys hy => by rw [I.tuple_inj hy hq]; exact hx⟩, ⟨⟨u, ?_⟩, hit'.1.at fun o q => (sb.2 it (Ne.symm hne)).trans q, hne⟩, fun b hb => ?_⟩
    · have e1 : ((i + 1 : Nat) : Int) = (i : Int) + 1 := by omega
      rw [e1]; exact he'
    · have hb' : b < s.heap.objs.size := by
        have e' : b = e ∨ b = it := by simpa using hb
        rcases e' with z | z
        · rw [z]; exact hel
        · rw [z]; obtain ⟨_, q, _⟩ := hit; exact Heap.lt_size q
      rw [upd_ne (Nat.ne_of_lt hb')]
      exact (hf b hb).1
  done := by
    intro X hP hw hK hc i pins s σ H E I hf st hg
    subst hP hw hK
    obtain ⟨⟨old, he⟩, hit, hne⟩ := st
    obtain ⟨xs, hq, hx⟩ := hg
    obtain ⟨its, rv, p, hz⟩ := I.tuple hq
    obtain ⟨f0, f1, f2, f3, f4, f5⟩ := hf it (by simp)
    have hl := rv.length
    have D := Draws.tuple (prog := X.prog) (w := X.w) (A := X.A.in1) (I.ok.hd hc) it a hae its.toArray
    have hi : its.toArray.size = i := by simp; omega
    exact wpAny_pyNext_enum_endD D he (by rw [hi]; exact ⟨hit, p⟩) fun h' eb => ⟨rfl, I.turned (t' := s.toks) (fun b o hb q => eb b o hb q) f0 f1 f3 f4 f5⟩
  self := fun A i s Q E st h => let ⟨⟨_, he⟩, _⟩ := st; wpAny_pyIter_enum he h
def iEnumT (K : PySem.W.Frag) (ta : TA) : TI := fun σ H R => ta σ H fun vs H1 => ∃ a xs, vs = [.ref a] ∧ SqT K H1 a xs ∧ R (IteT K a) H1
theorem pi_enumT {X : Cx} {e : Expr} {ta : TA} {p pos tpos : Pos} {elts : List Expr} {kk : Nat} (hg : Gl X "enumerate") (hm : X.mg "enumerate" = none) (ha : PA X [e] ta) (hs : starEach [e] X.env = [(false, eval e X.env)] := by rfl) :
    PI X (.Tuple elts kk tpos) (.Call (.Name "enumerate" p) [e] [] pos) (iEnumT X.K ta) := by
  refine ⟨fun pins s σ H R I h => ?_⟩
  refine Call_ (ld_blt I hg hm boot_enumerate (PyProof.Rows.callWith_type1 (thn (ha.run pos pins s σ H _ I h) fun us s1 ⟨vs, H1, I1, r1, q1⟩ => ?_) hs rfl))
  obtain ⟨a, xs, ex, hq, q⟩ := q1
  subst ex
  cases r1 with
  | cons r rr =>
    cases rr
    cases r
    obtain ⟨its, rv, p', hz⟩ := I1.tuple hq
    have hal : a < s1.heap.objs.size := by obtain ⟨o, ho, _⟩ := id p'; exact Heap.lt_size ho
    refine call_en1 (begins_tuple a its.toArray) p' fun h' he hit hsz hk => wpAny_pyIter_enum he ?_
    have I2 : Inv X pins σ H1 { s1 with heap := h' } := I1.kept (t' := s1.toks) hk
    refine ⟨s1.heap.objs.size + 1, [s1.heap.objs.size + 1, s1.heap.objs.size], _, _, H1, rfl, I2, turn_enumT a (s1.heap.objs.size + 1) s1.heap.objs.size (Nat.ne_of_lt hal), ⟨⟨.none, he⟩, ⟨_, hit, rfl, rfl⟩, Nat.succ_ne_self _⟩, fun b hb => ?_, q⟩
    have e' : b = s1.heap.objs.size + 1 ∨ b = s1.heap.objs.size := by simpa using hb
    have hle : s1.heap.objs.size ≤ b := by
      rcases e' with z | z
      · rw [z]; exact Nat.le_add_right _ _
      · rw [z]; exact Nat.le_refl _
    exact I1.fpOk hle (I1.hok.fresh hle)
section
variable {K : PySem.W.Frag} {a b : Addr} {xs ys : List V}
theorem walk_enumT : Walk (IteT K a) xs.length (fun H => SqT K H a xs) (YPair (fun i => some (.int (i : Nat))) fun i => xs[i]?) :=
  ⟨fun i _ hi q => ⟨xs, xs[i], q, by simp [hi]⟩, fun _ q => ⟨xs, q, rfl⟩, fun i H v H' _ q y => by
    obtain ⟨T, x, rfl, hT, rfl, f⟩ := y
    exact ⟨T, _, x, rfl, hT, rfl, rfl, f xs q⟩⟩
theorem walk_zipT (hl : xs.length = ys.length) : Walk (RZ.ItzT K a b) xs.length (fun H => SqT K H a xs ∧ SqT K H b ys) (YPair (fun i => xs[i]?) fun i => ys[i]?) :=
  ⟨fun i _ hi q => ⟨xs, ys, xs[i], ys[i], q.1, q.2, by simp [hi], by simp [← hl, hi]⟩, fun _ q => ⟨xs, ys, q.1, q.2, .inl (Nat.le_refl _)⟩, fun i H v H' _ q y => by
    obtain ⟨T, x, y, rfl, hT, rfl, f1, f2⟩ := y
    exact ⟨T, x, y, rfl, hT, rfl, f1 xs q.1, f2 ys q.2⟩⟩
theorem walk_zipL (hl : xs.length = ys.length) : Walk (Itz K a b) xs.length (fun H => SqL K H a xs ∧ SqL K H b ys) (YPair (fun i => xs[i]?) fun i => ys[i]?) :=
  ⟨fun i _ hi q => ⟨xs, ys, xs[i], ys[i], q.1, q.2, by simp [hi], by simp [← hl, hi]⟩, fun _ q => ⟨xs, ys, q.1, q.2, .inl (Nat.le_refl _)⟩, fun i H v H' _ q y => by
    obtain ⟨T, x, y, rfl, hT, rfl, f1, f2⟩ := y
    exact ⟨T, x, y, rfl, hT, rfl, f1 xs q.1, f2 ys q.2⟩⟩
end
section
variable {S : Addr → Prop} {I : Hp → Prop} {H : Hp} {J : It} {n : Nat} {G : Hp → Prop} {fx fy : Nat → Option V} {g : TG} {tt : TT} {te : TE} {vs : List Nat} {σ : L2.St} {Q : Addr → Hp → Prop}
theorem lcP (w : Walk J n G (YPair fx fy)) (m : Fm S I) (i0 : I H) (hG : ∀ H', Fx S I H H' → G H') (P : Nat → List V → Hp → Prop) (p0 : ∀ D, H D = none → P 0 [] (upd H D (.lst [])))
    (hs : ∀ D i T x y acc H', H D = none → i < n → fx i = some x → fy i = some y → Fx S I H H' → H' D = some (.lst acc) → acc.length ≤ i → P i acc H' → H' T = none → g (.ref T) (wipe σ vs) (upd H' T (.tup [x, y])) fun σ2 H2 => wipe σ2 vs = wipe σ vs ∧ tt σ2 H2 fun b H3 =>
      if b = true then te σ2 H3 fun y H4 => ∃ acc, H4 D = some (.lst acc) ∧ acc.length < sizeLine ∧ Cs S I H P D (i + 1) (upd H4 D (.lst (acc ++ [y]))) else Cs S I H P D (i + 1) H3)
    (q : ∀ D H' acc, H D = none → Fx S I H H' → H' D = some (.lst acc) → P n acc H' → Q D H') :
    ∀ D, H D = none → ∃ W : Nat → Nat → Hp → Prop, (∃ m, W 0 m (upd H D (.lst []))) ∧ ∀ i m H, W i m H →
      (J.stop i H ∧ Q D H) ∨ (J.go i H ∧ ∃ Nx : Hp → Prop, (∀ H', Nx H' → ∃ m', m' < m ∧ W (i + 1) m' H') ∧ ∀ x H', J.yld i H x H' → g x (wipe σ vs) H' fun σ2 H2 => wipe σ2 vs = wipe σ vs ∧ tt σ2 H2 fun b H3 =>
        if b = true then te σ2 H3 fun y H4 => ∃ acc, H4 D = some (.lst acc) ∧ acc.length < sizeLine ∧ Nx (upd H4 D (.lst (acc ++ [y]))) else Nx H3) := fun D hD =>
  lc_it w (Cs S I H P D) ⟨Fx.new m i0 hD, [], upd_same, Nat.le_refl _, p0 D hD⟩ (fun i H' _ p => hG H' p.1)
    (fun i x H' H'' hi p y => by
      obtain ⟨p1, acc, p2, p3, p4⟩ := p
      obtain ⟨T, x, y, rfl, hT, rfl, f1, f2⟩ := y
      exact hs D i T x y acc H' hD hi f1 f2 p1 p2 p3 p4 hT)
    (fun H' p => by
      obtain ⟨p1, acc, p2, p3, p4⟩ := p
      exact q D H' acc hD p1 p2 p4)
theorem for_P (w : Walk J n G (YPair fx fy)) {g : TG} {tb : TS} {D : Ends} {σ : L2.St} {H : Hp} (Pv : Nat → L2.St → Hp → Prop) (h0 : Pv 0 σ H) (hG : ∀ i σ H, i ≤ n → Pv i σ H → G H)
    (hs : ∀ i T x y σ H, i < n → fx i = some x → fy i = some y → Pv i σ H → H T = none → g (.ref T) σ (upd H T (.tup [x, y])) fun σ2 H2 => tb { D with nx := Pv (i + 1), ct := Pv (i + 1), bk := D.nx } σ2 H2) (hd : ∀ σ H, Pv n σ H → D.nx σ H) :
    ∃ W : Nat → Nat → L2.St → Hp → Prop, (∃ m, W 0 m σ H) ∧ ∀ i m σ H, W i m σ H →
      (J.stop i H ∧ D.nx σ H) ∨ (J.go i H ∧ ∃ N : L2.St → Hp → Prop, (∀ σ' H', N σ' H' → ∃ m', m' < m ∧ W (i + 1) m' σ' H') ∧ ∀ x H', J.yld i H x H' → g x σ H' fun σ2 H2 => tb { D with nx := N, ct := N, bk := D.nx } σ2 H2) :=
  for_it w Pv h0 hG (fun i v σ H H' hi p y => by
    obtain ⟨T, x, y, rfl, hT, rfl, f1, f2⟩ := y
    exact hs i T x y σ H hi f1 f2 p hT) hd
end
end Fr
set_option Elab.async false
set_option linter.all false
set_option maxRecDepth 100000
namespace Fr
open PySem PySem.Spec PyProof.Rows L2
def Vat (c : Addr) (H : Hp) : Prop := ∃ x y z : Int, H c = some (.lst [.int x, .int y, .int z])
def Sv (c : Addr) : Addr → Prop := fun b => b = c
theorem fmV (c : Addr) : Fm (Sv c) (Vat c) := by
  constructor
  · intro H D i h e
    obtain ⟨x, y, z, q⟩ := i
    unfold Sv at e
    rw [e, q] at h
    cases h
  · intro H D o n i
    obtain ⟨x, y, z, q⟩ := i
    exact ⟨x, y, z, by rw [upd_ne (fun e => n e.symm)]; exact q⟩
abbrev Fv (c : Addr) : Hp → Hp → Prop := Fx (Sv c) (Vat c)
theorem vat_new {c l : Addr} {H : Hp} {o : HO} (hc : Vat c H) (hl : H l = none) : Vat c (upd H l o) := (fmV c).stay ((fmV c).fresh hc hl) hc
theorem fv_new {c l : Addr} {H : Hp} {o : HO} (hc : Vat c H) (hl : H l = none) : Fv c H (upd H l o) := Fx.new (fmV c) hc hl
theorem fv_ne {c l : Addr} {H : Hp} (hc : Vat c H) (hl : H l = none) : l ≠ c := (fmV c).fresh hc hl
theorem vat_ex {c : Addr} {H H' : Hp} (hc : Vat c H) (e : Ex0 H H') : Vat c H' := by
  obtain ⟨x, y, z, q⟩ := hc
  exact ⟨x, y, z, Ex0.ap e q⟩
theorem fv_ex {c : Addr} {H H' : Hp} (hc : Vat c H) (e : Ex0 H H') : Fv c H H' := ⟨vat_ex hc e, fun b o _ h => Ex0.ap e h⟩
theorem fv_tup {c a : Addr} {H H' : Hp} {xs : List V} (hc : Vat c H) (f : Fv c H H') (h : H a = some (.tup xs)) : H' a = some (.tup xs) := f.2 a _ (fun e => by
  obtain ⟨x, y, z, q⟩ := hc
  unfold Sv at e
  rw [e, q] at h
  cases h) h
theorem ex_fv {p : Addr} {H H1 H2 : Hp} (e : Ex0 H H1) (hp : H p = none) (f : Fv p H1 H2) : Ex0 H H2 := ⟨trivial, fun b o _ h => f.2 b o (fun z => by unfold Sv at z; rw [z, hp] at h; cases h) (Ex0.ap e h)⟩
theorem cut_map (ns : List Int) (lo hi : Option Int) : cutV (ns.map V.int) lo hi = ((ns.drop (HT.sIx (ns.map V.int).length 0 lo)).take (HT.sIx (ns.map V.int).length (ns.map V.int).length hi - HT.sIx (ns.map V.int).length 0 lo)).map V.int := by
  unfold cutV
  rw [← List.map_drop, ← List.map_take]
end Fr
set_option Elab.async false
set_option linter.all false
set_option maxRecDepth 100000
namespace Fr
open PySem PySem.Spec PyProof.Rows L2
def addAt (l : List Int) (k : Nat) (v : Int) : List Int := l.set k (l.getD k 0 + v)
def rowN (l : List Int) (k : Nat) (x : Int) (ys : List Int) : Nat → List Int
  | 0 => l
  | j + 1 => addAt (rowN l k x ys j) (k + j) (x * ys.getD j 0)
def prodN (xs ys : List Int) : Nat → List Int
  | 0 => List.replicate (xs.length + ys.length - 1) 0
  | i + 1 => rowN (prodN xs ys i) i (xs.getD i 0) ys ys.length
def prodL (xs ys : List Int) : List Int := prodN xs ys xs.length
theorem addAt_len (l : List Int) (k : Nat) (v : Int) : (addAt l k v).length = l.length := by unfold addAt; rw [List.length_set]
theorem rowN_len (l : List Int) (k : Nat) (x : Int) (ys : List Int) : ∀ j, (rowN l k x ys j).length = l.length
  | 0 => rfl
  | j + 1 => by rw [rowN, addAt_len, rowN_len l k x ys j]
theorem prodN_len (xs ys : List Int) : ∀ i, (prodN xs ys i).length = xs.length + ys.length - 1
  | 0 => by rw [prodN, List.length_replicate]
  | i + 1 => by rw [prodN, rowN_len, prodN_len xs ys i]
theorem prodL_len (xs ys : List Int) : (prodL xs ys).length = xs.length + ys.length - 1 := prodN_len xs ys _
theorem gD_mem {l : List Int} {k : Nat} (h : k < l.length) : l.getD k 0 ∈ l := by
  rw [List.getD_eq_getElem?_getD, List.getElem?_eq_getElem h]
  exact List.getElem_mem h
theorem getD_le {l : List Int} {m : Nat} (h : ∀ z ∈ l, z.natAbs ≤ m) (k : Nat) : (l.getD k 0).natAbs ≤ m := by
  by_cases hk : k < l.length
  · exact h _ (gD_mem hk)
  · rw [List.getD_eq_getElem?_getD, List.getElem?_eq_none (by omega)]
    exact Nat.zero_le _
theorem rowN_le {l : List Int} {k : Nat} {x : Int} {ys : List Int} {m M : Nat} (h : ∀ z ∈ l, z.natAbs ≤ m) (hy : ∀ y ∈ ys, (x * y).natAbs ≤ M) : ∀ j, j ≤ ys.length → ∀ z ∈ rowN l k x ys j, z.natAbs ≤ m + j * M
  | 0, _ => fun z hz => by have := h z hz; omega
  | j + 1, hj => fun z hz => by
    have ih := rowN_le (k := k) h hy j (by omega)
    have e : (j + 1) * M = j * M + M := by rw [Nat.add_mul, Nat.one_mul]
    rw [rowN] at hz
    unfold addAt at hz
    rcases List.mem_or_eq_of_mem_set hz with q | rfl
    · have := ih z q
      omega
    · have h1 := getD_le ih (k + j)
      have h2 := hy _ (gD_mem (show j < ys.length by omega))
      omega
theorem prodN_le {xs ys : List Int} {M : Nat} (h : ∀ x ∈ xs, ∀ y ∈ ys, (x * y).natAbs ≤ M) : ∀ i, i ≤ xs.length → ∀ z ∈ prodN xs ys i, z.natAbs ≤ i * (ys.length * M)
  | 0, _ => fun z hz => by
    rw [prodN] at hz
    rw [List.eq_of_mem_replicate hz]
    exact Nat.zero_le _
  | i + 1, hi => fun z hz => by
    have ih := prodN_le h i (by omega)
    have e : (i + 1) * (ys.length * M) = i * (ys.length * M) + ys.length * M := by rw [Nat.add_mul, Nat.one_mul]
    rw [prodN] at hz
    rw [e]
    exact rowN_le ih (fun y hy => h _ (gD_mem (by omega)) y hy) _ (Nat.le_refl _) z hz
theorem prodL_B {xs ys : List Int} {a b : Nat} (ha : ∀ x ∈ xs, B a x) (hb : ∀ y ∈ ys, B b y) (hp : 0 < a) : ∀ z ∈ prodL xs ys, B (a + b + xs.length * ys.length) z := fun z hz => by
  have h1 := prodN_le (M := 2 ^ (a + b)) (fun x hx y hy => Nat.le_of_lt (B.mul (ha x hx) (hb y hy)).1) xs.length (Nat.le_refl _) z hz
  refine ⟨?_, by omega⟩
  rw [← Nat.mul_assoc] at h1
  rw [Nat.pow_add 2 (a + b), Nat.mul_comm]
  exact Nat.lt_of_le_of_lt h1 (Nat.mul_lt_mul_of_pos_right Nat.lt_two_pow_self (Nat.two_pow_pos _))
theorem get_map {l : List Int} {k : Nat} (h : k < l.length) : (l.map V.int)[k]? = some (V.int (l.getD k 0)) := by
  rw [List.getElem?_map, List.getElem?_eq_getElem h, List.getD_eq_getElem?_getD, List.getElem?_eq_getElem h]
  rfl
theorem get_D {l : List Int} {k : Nat} {y : V} (h : (l.map V.int)[k]? = some y) : y = V.int (l.getD k 0) ∧ k < l.length := by
  have hk : k < l.length := by
    have := (List.getElem?_eq_some_iff.mp h).1
    rwa [List.length_map] at this
  rw [get_map hk] at h
  exact ⟨(Option.some.inj h).symm, hk⟩
theorem zeros (m : Nat) : (List.replicate m [V.int 0]).flatten = (List.replicate m (0 : Int)).map V.int := by
  induction m with
  | zero => rfl
  | succ m ih => rw [List.replicate_succ, List.replicate_succ, List.flatten_cons, ih]; rfl
def valN (xs : List Int) (x y : Int) : Nat → Int × Int
  | 0 => (0, 1)
  | i + 1 => ((valN xs x y i).1 * x + xs.getD i 0 * (valN xs x y i).2, (valN xs x y i).2 * y)
theorem valN_B {xs : List Int} {x y : Int} (hx : B 200 x) (hy : B 200 y) (h : ∀ z ∈ xs, B 200 z) : ∀ i, i ≤ 8 → B (1 + 3000 * i) (valN xs x y i).1 ∧ B (1 + 200 * i) (valN xs x y i).2
  | 0, _ => ⟨⟨by show (0 : Int).natAbs < 2 ^ 1; decide, by decide⟩, ⟨by show (1 : Int).natAbs < 2 ^ 1; decide, by decide⟩⟩
  | i + 1, hi => by
    obtain ⟨h1, h2⟩ := valN_B hx hy h i (by omega)
    have h3 : B 200 (xs.getD i 0) := ⟨Nat.lt_of_le_of_lt (getD_le (m := 2 ^ 200 - 1) (fun z hz => Nat.le_sub_one_of_lt (h z hz).1) i) (by decide), by decide⟩
    rw [valN]
    exact ⟨(B.add (B.mul h1 hx) (B.mul h3 h2)).mono (by omega), (B.mul h2 hy).mono (by omega)⟩
def partN (n : Nat) (e p q r s : Int) (i : Nat) : Nat → List Int
  | 0 => [e]
  | t + 1 => prodL (partN n e p q r s i t) (if (0 : Int) + (t : Int) < ((n : Int) - 1) - (i : Int) then [p, r] else [q, s])
def putN (row : List Int) (p q r s : Int) : Nat → List Int
  | 0 => List.replicate row.length 0
  | i + 1 => List.zipWith (· + ·) (putN row p q r s i) (partN row.length (row.getD i 0) p q r s i (row.length - 1))
theorem partN_len (n : Nat) (e p q r s : Int) (i : Nat) : ∀ t, (partN n e p q r s i t).length = t + 1
  | 0 => rfl
  | t + 1 => by
    rw [partN, prodL_len, partN_len n e p q r s i t]
    split <;> rfl
theorem partN_B {n : Nat} {e p q r s : Int} {i : Nat} (he : B 400 e) (hp : B 400 p) (hq : B 400 q) (hr : B 400 r) (hs : B 400 s) : ∀ t, t ≤ 10 → ∀ z ∈ partN n e p q r s i t, B (400 + 500 * t) z
  | 0, _ => fun z hz => by
    rw [partN] at hz
    have : z = e := by simpa using hz
    rw [this]
    exact he
  | t + 1, ht => fun z hz => by
    have ih := partN_B (n := n) (i := i) he hp hq hr hs t (by omega)
    rw [partN] at hz
    refine B.mono (prodL_B (a := 400 + 500 * t) (b := 400) ih (fun y hy => ?_) (by omega) z hz) ?_
    · split at hy <;> simp only [List.mem_cons, List.mem_nil_iff, or_false] at hy <;> rcases hy with rfl | rfl <;> assumption
    · rw [partN_len]
      split <;> simp <;> omega
theorem putN_len (row : List Int) (p q r s : Int) (h : row ≠ []) : ∀ i, (putN row p q r s i).length = row.length
  | 0 => by rw [putN, List.length_replicate]
  | i + 1 => by
    have := List.length_pos_iff.mpr h
    rw [putN, List.length_zipWith, putN_len row p q r s h i, partN_len]
    omega
theorem mem_zip {xs ys : List Int} {z : Int} (h : z ∈ List.zipWith (· + ·) xs ys) : ∃ x ∈ xs, ∃ y ∈ ys, z = x + y := by
  obtain ⟨k, hk, e⟩ := List.getElem_of_mem h
  rw [List.getElem_zipWith] at e
  rw [List.length_zipWith] at hk
  exact ⟨_, List.getElem_mem (by omega), _, List.getElem_mem (by omega), e.symm⟩
theorem putN_B {row : List Int} {p q r s : Int} (h : ∀ e ∈ row, B 400 e) (hl : row.length ≤ 11) (hp : B 400 p) (hq : B 400 q) (hr : B 400 r) (hs : B 400 s) : ∀ i, i ≤ row.length → ∀ z ∈ putN row p q r s i, B (1 + 6000 * i) z
  | 0, _ => fun z hz => by
    rw [putN] at hz
    rw [List.eq_of_mem_replicate hz]
    exact ⟨by decide, by decide⟩
  | i + 1, hi => fun z hz => by
    rw [putN] at hz
    obtain ⟨u, hu, v, hv, rfl⟩ := mem_zip hz
    exact (B.add (putN_B h hl hp hq hr hs i (by omega) u hu) (partN_B (h _ (gD_mem (by omega))) hp hq hr hs _ (by omega) v hv)).mono (by omega)
end Fr
set_option Elab.async false
set_option linter.all false
set_option maxRecDepth 100000
namespace K05M
def fv (a b c d x y : Int) : Int := a * x * x * x + b * x * x * y + c * x * y * y + d * y * y * y
def fdisc (a b c d : Int) : Int := b * b * c * c - 4 * a * c * c * c - 4 * b * b * b * d - 27 * a * a * d * d + 18 * a * b * c * d
def fl2 (a b c d p q r s : Int) : Int := 3 * a * p * p * r + b * p * (p * s + 2 * q * r) + c * q * (2 * p * s + q * r) + 3 * d * q * q * s
def fl3 (a b c d p q r s : Int) : Int := 3 * a * p * r * r + b * r * (2 * p * s + q * r) + c * s * (p * s + 2 * q * r) + 3 * d * q * s * s
theorem put1 (a b c d p q r s i j : Int) : fv (fv a b c d p q) (fl2 a b c d p q r s) (fl3 a b c d p q r s) (fv a b c d r s) i j = fv a b c d (i * p + j * r) (i * q + j * s) := by
  unfold fv fl2 fl3
  grind
theorem put2 (a b c d p q r s i j k m : Int) : fl2 (fv a b c d p q) (fl2 a b c d p q r s) (fl3 a b c d p q r s) (fv a b c d r s) i j k m = fl2 a b c d (i * p + j * r) (i * q + j * s) (k * p + m * r) (k * q + m * s) := by
  unfold fv fl2 fl3
  grind
theorem put3 (a b c d p q r s i j k m : Int) : fl3 (fv a b c d p q) (fl2 a b c d p q r s) (fl3 a b c d p q r s) (fv a b c d r s) i j k m = fl3 a b c d (i * p + j * r) (i * q + j * s) (k * p + m * r) (k * q + m * s) := by
  unfold fv fl2 fl3
  grind
theorem disc (a b c d p q r s : Int) : fdisc (fv a b c d p q) (fl2 a b c d p q r s) (fl3 a b c d p q r s) (fv a b c d r s) = (p * s - q * r) * (p * s - q * r) * (p * s - q * r) * (p * s - q * r) * (p * s - q * r) * (p * s - q * r) * fdisc a b c d := by
  unfold fdisc fv fl2 fl3
  grind
theorem fv_mul (e a b c d x y : Int) : fv (e * a) (e * b) (e * c) (e * d) x y = e * fv a b c d x y := by unfold fv; grind
theorem fl2_mul (e a b c d p q r s : Int) : fl2 (e * a) (e * b) (e * c) (e * d) p q r s = e * fl2 a b c d p q r s := by unfold fl2; grind
theorem fl3_mul (e a b c d p q r s : Int) : fl3 (e * a) (e * b) (e * c) (e * d) p q r s = e * fl3 a b c d p q r s := by unfold fl3; grind
theorem disc_neg (a b c d : Int) : fdisc (-1 * a) (-1 * b) (-1 * c) (-1 * d) = fdisc a b c d := by unfold fdisc; grind
theorem det_mul (p q r s i j k m : Int) : (i * p + j * r) * (k * q + m * s) - (i * q + j * s) * (k * p + m * r) = (i * m - j * k) * (p * s - q * r) := by grind
theorem fv_one (a b c d : Int) : fv a b c d 1 0 = a ∧ fv a b c d 0 1 = d ∧ fl2 a b c d 1 0 0 1 = b ∧ fl3 a b c d 1 0 0 1 = c := by
  unfold fv fl2 fl3
  refine ⟨?_, ?_, ?_, ?_⟩ <;> grind
theorem und (p q r s e : Int) (he : e = p * s - q * r) (h : e = 1 ∨ e = -1) : (e * s) * p + (-e * q) * r = 1 ∧ (e * s) * q + (-e * q) * s = 0 ∧ (-e * r) * p + (e * p) * r = 0 ∧ (-e * r) * q + (e * p) * s = 1 := by
  have h1 : e * e = 1 := by rcases h with rfl | rfl <;> decide
  refine ⟨?_, ?_, ?_, ?_⟩ <;> grind
end K05M
set_option Elab.async false
set_option linter.all false
namespace K06M
open K05M
def h0 (a b c d : Int) : Int := b * b - 3 * a * c
def h1 (a b c d : Int) : Int := b * c - 9 * a * d
def h2 (a b c d : Int) : Int := c * c - 3 * b * d
def g0 (a b c d : Int) : Int := 2 * b * b * b - 9 * a * b * c + 27 * a * a * d
def g1 (a b c d : Int) : Int := 3 * b * b * c - 18 * a * c * c + 27 * a * b * d
def g2 (a b c d : Int) : Int := -3 * b * c * c + 18 * b * b * d - 27 * a * c * d
def g3 (a b c d : Int) : Int := -2 * c * c * c + 9 * b * c * d - 27 * a * d * d
def dv (a b c x y : Int) : Int := a * x * x + b * x * y + c * y * y
def ddisc (a b c : Int) : Int := b * b - 4 * a * c
def dl (a b c p q r s : Int) : Int := 2 * a * p * r + b * (p * s + q * r) + 2 * c * q * s
theorem hdisc (a b c d : Int) : ddisc (h0 a b c d) (h1 a b c d) (h2 a b c d) = -3 * fdisc a b c d := by
  unfold ddisc h0 h1 h2 fdisc; grind
theorem gh0 (a b c d : Int) : h0 (g0 a b c d) (g1 a b c d) (g2 a b c d) (g3 a b c d) = 27 * fdisc a b c d * h0 a b c d := by
  unfold h0 g0 g1 g2 fdisc; grind
theorem gh1 (a b c d : Int) : h1 (g0 a b c d) (g1 a b c d) (g2 a b c d) (g3 a b c d) = 27 * fdisc a b c d * h1 a b c d := by
  unfold h1 g0 g1 g2 g3 fdisc; grind
theorem gh2 (a b c d : Int) : h2 (g0 a b c d) (g1 a b c d) (g2 a b c d) (g3 a b c d) = 27 * fdisc a b c d * h2 a b c d := by
  unfold h2 g1 g2 g3 fdisc; grind
theorem led0 (a b c d p q r s : Int) : h0 (fv a b c d p q) (fl2 a b c d p q r s) (fl3 a b c d p q r s) (fv a b c d r s) = (p * s - q * r) * (p * s - q * r) * dv (h0 a b c d) (h1 a b c d) (h2 a b c d) p q := by
  unfold h0 h1 h2 fv fl2 fl3 dv; grind
theorem led1 (a b c d p q r s : Int) : h1 (fv a b c d p q) (fl2 a b c d p q r s) (fl3 a b c d p q r s) (fv a b c d r s) = (p * s - q * r) * (p * s - q * r) * dl (h0 a b c d) (h1 a b c d) (h2 a b c d) p q r s := by
  unfold h0 h1 h2 fv fl2 fl3 dl; grind
theorem led2 (a b c d p q r s : Int) : h2 (fv a b c d p q) (fl2 a b c d p q r s) (fl3 a b c d p q r s) (fv a b c d r s) = (p * s - q * r) * (p * s - q * r) * dv (h0 a b c d) (h1 a b c d) (h2 a b c d) r s := by
  unfold h0 h1 h2 fv fl2 fl3 dv; grind
theorem syz (a b c d x y : Int) : 4 * dv (h0 a b c d) (h1 a b c d) (h2 a b c d) x y * dv (h0 a b c d) (h1 a b c d) (h2 a b c d) x y * dv (h0 a b c d) (h1 a b c d) (h2 a b c d) x y = fv (g0 a b c d) (g1 a b c d) (g2 a b c d) (g3 a b c d) x y * fv (g0 a b c d) (g1 a b c d) (g2 a b c d) (g3 a b c d) x y + 27 * fdisc a b c d * fv a b c d x y * fv a b c d x y := by
  unfold dv h0 h1 h2 g0 g1 g2 g3 fdisc fv; grind
theorem gdisc (a b c d : Int) : fdisc (g0 a b c d) (g1 a b c d) (g2 a b c d) (g3 a b c d) = 729 * fdisc a b c d * fdisc a b c d * fdisc a b c d := by
  unfold g0 g1 g2 g3 fdisc; grind
theorem gled0 (a b c d p q r s : Int) : g0 (fv a b c d p q) (fl2 a b c d p q r s) (fl3 a b c d p q r s) (fv a b c d r s) = (p * s - q * r) * (p * s - q * r) * (p * s - q * r) * fv (g0 a b c d) (g1 a b c d) (g2 a b c d) (g3 a b c d) p q := by
  unfold g0 g1 g2 g3 fv fl2 fl3; grind
theorem gled1 (a b c d p q r s : Int) : g1 (fv a b c d p q) (fl2 a b c d p q r s) (fl3 a b c d p q r s) (fv a b c d r s) = (p * s - q * r) * (p * s - q * r) * (p * s - q * r) * fl2 (g0 a b c d) (g1 a b c d) (g2 a b c d) (g3 a b c d) p q r s := by
  unfold g0 g1 g2 g3 fv fl2 fl3; grind
theorem gled2 (a b c d p q r s : Int) : g2 (fv a b c d p q) (fl2 a b c d p q r s) (fl3 a b c d p q r s) (fv a b c d r s) = (p * s - q * r) * (p * s - q * r) * (p * s - q * r) * fl3 (g0 a b c d) (g1 a b c d) (g2 a b c d) (g3 a b c d) p q r s := by
  unfold g0 g1 g2 g3 fv fl2 fl3; grind
theorem gled3 (a b c d p q r s : Int) : g3 (fv a b c d p q) (fl2 a b c d p q r s) (fl3 a b c d p q r s) (fv a b c d r s) = (p * s - q * r) * (p * s - q * r) * (p * s - q * r) * fv (g0 a b c d) (g1 a b c d) (g2 a b c d) (g3 a b c d) r s := by
  unfold g0 g1 g2 g3 fv fl2 fl3; grind
theorem h_mul (e a b c d : Int) : h0 (e * a) (e * b) (e * c) (e * d) = e * e * h0 a b c d ∧ h1 (e * a) (e * b) (e * c) (e * d) = e * e * h1 a b c d ∧ h2 (e * a) (e * b) (e * c) (e * d) = e * e * h2 a b c d := by
  unfold h0 h1 h2
  refine ⟨?_, ?_, ?_⟩ <;> grind
theorem g_mul (e a b c d : Int) : g0 (e * a) (e * b) (e * c) (e * d) = e * e * e * g0 a b c d ∧ g1 (e * a) (e * b) (e * c) (e * d) = e * e * e * g1 a b c d ∧ g2 (e * a) (e * b) (e * c) (e * d) = e * e * e * g2 a b c d ∧ g3 (e * a) (e * b) (e * c) (e * d) = e * e * e * g3 a b c d := by
  unfold g0 g1 g2 g3
  refine ⟨?_, ?_, ?_, ?_⟩ <;> grind
end K06M
namespace TurnM
open K06M (dv dl ddisc h0 h1 h2 g0)
open K05M (fdisc)
theorem step_p (a b c p q : Int) : 4 * a * dv a b c p q = (2 * a * p + b * q) * (2 * a * p + b * q) + (4 * a * c - b * b) * (q * q) := by unfold dv; grind
theorem step_q (a b c p q : Int) : 4 * c * dv a b c p q = (2 * c * q + b * p) * (2 * c * q + b * p) + (4 * a * c - b * b) * (p * p) := by unfold dv; grind
theorem sqn (x : Int) : 0 ≤ x * x := by
  rcases Int.le_total 0 x with h | h
  · exact Int.mul_nonneg h h
  · have := Int.mul_nonneg (show 0 ≤ -x by omega) (show 0 ≤ -x by omega)
    rwa [Int.neg_mul_neg] at this
theorem sq_le {x y : Int} (hy : 0 ≤ y) (h : x * x ≤ y * y) : x.natAbs ≤ y.natAbs := by
  rcases Nat.lt_or_ge y.natAbs x.natAbs with z | z
  · exfalso
    have h1 : y.natAbs * y.natAbs < x.natAbs * x.natAbs := Nat.mul_lt_mul'' z z
    have e1 : (x.natAbs : Int) * x.natAbs = x * x := Int.natAbs_mul_self
    have e2 : (y.natAbs : Int) * y.natAbs = y * y := Int.natAbs_mul_self
    have : ((y.natAbs * y.natAbs : Nat) : Int) < ((x.natAbs * x.natAbs : Nat) : Int) := Int.ofNat_lt.mpr h1
    rw [Int.natCast_mul, Int.natCast_mul, e1, e2] at this
    omega
  · exact z
theorem q_le {a b c p q : Int} (d : 1 ≤ 4 * a * c - b * b) : q * q ≤ 4 * a * dv a b c p q := by
  rw [step_p]
  have h1 := sqn (2 * a * p + b * q)
  have h2 := Int.mul_nonneg (show 0 ≤ 4 * a * c - b * b - 1 by omega) (sqn q)
  grind
theorem p_le {a b c p q : Int} (d : 1 ≤ 4 * a * c - b * b) : p * p ≤ 4 * c * dv a b c p q := by
  rw [step_q]
  have h1 := sqn (2 * c * q + b * p)
  have h2 := Int.mul_nonneg (show 0 ≤ 4 * a * c - b * b - 1 by omega) (sqn p)
  grind
def Red (a b c : Int) : Prop := 0 < a ∧ 0 ≤ b ∧ b ≤ a ∧ a ≤ c
theorem red_three {a b c : Int} (h : Red a b c) (d : 4 * a * c - b * b = 3) : a = 1 ∧ b = 1 ∧ c = 1 := by
  obtain ⟨h1, h2, h3, h4⟩ := h
  have e1 : a * a ≤ a * c := Int.mul_le_mul_of_nonneg_left h4 (by omega)
  have e2 : b * b ≤ a * a := Int.mul_le_mul h3 h3 h2 (by omega)
  have a1 : a = 1 := by
    rcases Int.lt_or_le 1 a with z | z
    · have : 2 * 2 ≤ a * a := Int.mul_le_mul z z (by omega) (by omega)
      have e3 : 4 * a * c = 4 * (a * c) := by grind
      omega
    · omega
  subst a1
  have hb : b = 0 ∨ b = 1 := by omega
  rcases hb with rfl | rfl
  · omega
  · exact ⟨rfl, rfl, by omega⟩
theorem turn_iff {a b c D : Int} {g : Nat} (h : Red a b c) (d : 4 * a * c - b * b = 3 * D) (hg : ∀ k : Nat, k ∣ g ↔ ((k : Int) ∣ a ∧ (k : Int) ∣ b ∧ (k : Int) ∣ c)) : (a = b ∧ b = c) ↔ (g : Int) * g = D := by
  have gd := (hg g).mp (Nat.dvd_refl g)
  constructor
  · rintro ⟨rfl, rfl⟩
    have ga : g = a.natAbs := by
      refine Nat.dvd_antisymm (Int.ofNat_dvd_left.mp gd.1) ((hg a.natAbs).mpr ?_)
      have : (a.natAbs : Int) ∣ a := Int.natAbs_dvd.mpr (Int.dvd_refl a)
      exact ⟨this, this, this⟩
    have e : (a.natAbs : Int) * a.natAbs = a * a := Int.natAbs_mul_self
    rw [ga, e]
    grind
  · intro e
    obtain ⟨⟨x, hx⟩, ⟨y, hy⟩, ⟨z, hz⟩⟩ := gd
    have g0 : 0 < (g : Int) := by
      rcases Nat.eq_zero_or_pos g with z0 | z0
      · subst z0
        have := h.1
        rw [hx] at this
        simp at this
      · omega
    have can : ∀ {u v : Int}, (g : Int) * u ≤ g * v → u ≤ v := fun h => Int.le_of_mul_le_mul_left h g0
    have r : Red x y z := by
      obtain ⟨r1, r2, r3, r4⟩ := h
      rw [hx] at r1 r3 r4
      rw [hy] at r2 r3
      rw [hz] at r4
      refine ⟨?_, can (by rw [Int.mul_zero]; exact r2), can r3, can r4⟩
      rcases Int.lt_or_le 0 x with q | q
      · exact q
      · have := Int.mul_nonneg (Int.le_of_lt g0) (show 0 ≤ -x by omega)
        grind
    have e3 : 4 * x * z - y * y = 3 := by
      have k : (g : Int) * g * (4 * x * z - y * y) = g * g * 3 := by
        rw [hx, hy, hz, ← e] at d
        grind
      exact Int.eq_of_mul_eq_mul_left (Int.mul_ne_zero (by omega) (by omega)) k
    obtain ⟨rfl, rfl, rfl⟩ := red_three r e3
    rw [hx, hy, hz]
    exact ⟨rfl, rfl⟩
theorem first_pos {a b c d : Int} (hd : 0 < fdisc a b c d) : 0 < h0 a b c d ∧ 0 < h2 a b c d := by
  have s0 : 4 * h0 a b c d * h0 a b c d * h0 a b c d = g0 a b c d * g0 a b c d + 27 * fdisc a b c d * (a * a) := by unfold h0 g0 fdisc; grind
  have s1 : 4 * h2 a b c d * h2 a b c d * h2 a b c d = K06M.g3 a b c d * K06M.g3 a b c d + 27 * fdisc a b c d * (d * d) := by unfold h2 K06M.g3 fdisc; grind
  have dc : 4 * h0 a b c d * h2 a b c d - h1 a b c d * h1 a b c d = 3 * fdisc a b c d := by
    have := K06M.hdisc a b c d
    unfold ddisc at this
    omega
  have q1 := sqn (h1 a b c d)
  have n0 : ∀ {x s t : Int}, 4 * x * x * x = s * s + 27 * fdisc a b c d * (t * t) → 0 ≤ x := fun {x s t} e => by
    rcases Int.lt_or_le x 0 with z | z
    · exfalso
      have h1 := sqn s
      have h2 := Int.mul_nonneg (show 0 ≤ 27 * fdisc a b c d by omega) (sqn t)
      have h3 : 0 < (-x) * (-x) * (-x) := Int.mul_pos (Int.mul_pos (by omega) (by omega)) (by omega)
      have h4 : (-x) * (-x) * (-x) = -(x * x * x) := by grind
      have h5 : 4 * x * x * x = 4 * (x * x * x) := by grind
      omega
    · exact z
  have z0 := n0 s0
  have z2 := n0 s1
  have pr : 0 < h0 a b c d * h2 a b c d := by
    have e : 4 * h0 a b c d * h2 a b c d = 4 * (h0 a b c d * h2 a b c d) := by grind
    omega
  constructor
  · rcases Int.lt_or_eq_of_le z0 with z | z
    · exact z
    · rw [← z, Int.zero_mul] at pr; omega
  · rcases Int.lt_or_eq_of_le z2 with z | z
    · exact z
    · rw [← z, Int.mul_zero] at pr; omega
theorem turn_h (a b : Int) : h0 a b (b - 3 * a) (-a) = b * b - 3 * a * b + 9 * a * a ∧ h1 a b (b - 3 * a) (-a) = b * b - 3 * a * b + 9 * a * a ∧ h2 a b (b - 3 * a) (-a) = b * b - 3 * a * b + 9 * a * a := by
  unfold h0 h1 h2
  refine ⟨?_, ?_, ?_⟩ <;> grind
theorem turn_d (a b : Int) : fdisc a b (b - 3 * a) (-a) = (b * b - 3 * a * b + 9 * a * a) * (b * b - 3 * a * b + 9 * a * a) := by
  unfold fdisc; grind
theorem quot0 {a b : Int} (a0 : 0 < a) : (a - b) / (2 * a) = 0 ↔ (-a < b ∧ b ≤ a) := by
  have h2 : (0 : Int) < 2 * a := by omega
  have e1 := Int.emod_nonneg (a - b) (show (2 * a : Int) ≠ 0 by omega)
  have e2 := Int.emod_lt_of_pos (a - b) h2
  have e3 := Int.mul_ediv_add_emod (a - b) (2 * a)
  constructor
  · intro z
    rw [z, Int.mul_zero] at e3
    omega
  · intro ⟨z1, z2⟩
    exact Int.ediv_eq_zero_of_lt (by omega) (by omega)
theorem shift_in {a b n : Int} (a0 : 0 < a) (hn : n = (a - b) / (2 * a)) : -a < 2 * a * n + b ∧ 2 * a * n + b ≤ a := by
  have h2 : (0 : Int) < 2 * a := by omega
  have e1 := Int.emod_nonneg (a - b) (show (2 * a : Int) ≠ 0 by omega)
  have e2 := Int.emod_lt_of_pos (a - b) h2
  have e3 := Int.mul_ediv_add_emod (a - b) (2 * a)
  rw [← hn] at e3
  omega
def StepOk (a b c i j k m : Int) : Prop := (i = 1 ∧ j = 0 ∧ m = 1 ∧ ¬ (-a < b ∧ b ≤ a) ∧ -a < 2 * a * k + b ∧ 2 * a * k + b ≤ a) ∨ (i = 0 ∧ j = 1 ∧ k = 1 ∧ m = 0 ∧ -a < b ∧ b ≤ a ∧ c < a) ∨ (i = 1 ∧ j = 0 ∧ k = 0 ∧ m = -1 ∧ -a < b ∧ b ≤ a ∧ a ≤ c ∧ b < 0)
def mu (a b : Int) : Nat := 4 * a.toNat + (if -a < b ∧ b ≤ a then 0 else 2) + (if b < 0 then 1 else 0)
theorem mu_le (a b : Int) : mu a b ≤ 4 * a.toNat + 3 := by
  unfold mu
  split <;> split <;> omega
theorem step_dec {a b c i j k m : Int} (h : StepOk a b c i j k m) (a0 : 0 < a) (c0 : 0 < c) :
    0 < dv a b c i j ∧ dv a b c i j ≤ a ∧ mu (dv a b c i j) (dl a b c i j k m) < mu a b ∧ (i * m - j * k = 1 ∨ i * m - j * k = -1) ∧ (dv a b c k m = c ∨ dv a b c k m = a ∨ (dv a b c i j = a ∧ dl a b c i j k m * dl a b c i j k m ≤ a * a)) := by
  rcases h with ⟨rfl, rfl, rfl, h1, h2, h3⟩ | ⟨rfl, rfl, rfl, rfl, h1, h2, h3⟩ | ⟨rfl, rfl, rfl, rfl, h1, h2, h3, h4⟩
  · have e1 : dv a b c 1 0 = a := by unfold dv; grind
    have e2 : dl a b c 1 0 k 1 = 2 * a * k + b := by unfold dl; grind
    rw [e1, e2]
    refine ⟨a0, Int.le_refl _, ?_, .inl (by omega), .inr (.inr ⟨rfl, ?_⟩)⟩
    · unfold mu
      rw [if_pos (And.intro h2 h3), if_neg h1]
      split <;> omega
    · generalize 2 * a * k + b = x at h2 h3
      have := sq_le (x := x) (y := a) (by omega)
      have k1 := Int.mul_nonneg (show 0 ≤ a - x by omega) (show 0 ≤ a + x by omega)
      grind
  · have e1 : dv a b c 0 1 = c := by unfold dv; grind
    have e2 : dl a b c 0 1 1 0 = b := by unfold dl; grind
    have e3 : dv a b c 1 0 = a := by unfold dv; grind
    rw [e1, e2, e3]
    refine ⟨c0, by omega, ?_, .inr (by omega), .inr (.inl rfl)⟩
    have := mu_le c b
    have h5 : mu a b ≥ 4 * a.toNat := by unfold mu; omega
    omega
  · have e1 : dv a b c 1 0 = a := by unfold dv; grind
    have e2 : dl a b c 1 0 0 (-1) = -b := by unfold dl; grind
    have e3 : dv a b c 0 (-1) = c := by unfold dv; grind
    rw [e1, e2, e3]
    refine ⟨a0, Int.le_refl _, ?_, .inr (by omega), .inl rfl⟩
    unfold mu
    rw [if_pos (And.intro h1 h2), if_pos h4, if_pos (show -a < -b ∧ -b ≤ a by omega), if_neg (by omega)]
    omega
theorem disc_led (a b c p q r s : Int) : 4 * dv a b c p q * dv a b c r s - dl a b c p q r s * dl a b c p q r s = (p * s - q * r) * (p * s - q * r) * (4 * a * c - b * b) := by
  unfold dv dl; grind
end TurnM
namespace TF
open PySem PySem.Spec PyProof.Rows L2 Fr
section
variable {X : Cx}
def rIsqrtW : List V → Hp → VK → Prop := fun vs H Q => ∃ a : Int, vs = [.int a] ∧ 0 ≤ a ∧ a.natAbs.log2 < 13000 ∧ ∀ r : Int, 0 ≤ r → r * r ≤ a → a < (r + 1) * (r + 1) → Q (.int r) H
theorem cr_isqrt : CallR X (.builtin "math.isqrt") rIsqrtW := by
  intro pins s σ H vs us Q I r h
  obtain ⟨a, rfl, h0, h1, q⟩ := h
  obtain ⟨u, rfl, ru⟩ := Vals.one r
  obtain ⟨t, rfl⟩ := ru
  have sp := PySem.Float64.isqrt_spec a.toNat
  have hl : a.toNat.log2 < 13000 := by
    have : a.toNat = a.natAbs := by omega
    rw [this]
    exact h1
  refine PySem.call_function_meets PySem.W.MGF.kind_isqrt PySem.W.MGF.plain_isqrt PySem.W.MGF.entry_isqrt (PySem.W.MGF.args_isqrt _) (PySem.W.mg_run_isqrt a t (by omega) (by omega) (by omega)).meets ⟨.int _, H, I.tok _, ⟨_, rfl⟩, q _ (Int.natCast_nonneg _) ?_ ?_⟩
  · have := sp.1
    have e : ((Float64.isqrt a.toNat * Float64.isqrt a.toNat : Nat) : Int) ≤ (a.toNat : Int) := Int.ofNat_le.mpr this
    rw [Int.toNat_of_nonneg h0] at e
    simpa using e
  · have := sp.2
    have e : (a.toNat : Int) < (((Float64.isqrt a.toNat + 1) * (Float64.isqrt a.toNat + 1) : Nat) : Int) := Int.ofNat_lt.mpr this
    rw [Int.toNat_of_nonneg h0] at e
    simpa using e
end
end TF
namespace Gd
open PySem PySem.Spec PyProof.Rows L2 Fr
structure FnG (P : Program) (w : World) (K : PySem.W.Frag) (mg : Str → Option Value) (base : Heap) (k : Nat) (f : Addr) (fd : FuncData) (ps : List Str) (sp : Sp) : Prop where
  size : ∀ vs H Q E, sp vs H Q E → vs.length = ps.length
  runs : ∀ (A : Around) (out : List Env) (s : Shared) (H : Hp) (ar : Args) (us : List Value) (vs : List V) (Q : VK) (E : XK), A.guards = some [] → Room k A →
    Env0 P w K mg base A out s H → BindsTo s fd ar (ps.zip us) → Vals vs us → sp vs H Q E → codeAny (model P w) A (.call (.ref f) ar) (CR CX0 out P w H s Q E) s
def DefG (P : Program) (w : World) (K : PySem.W.Frag) (mg : Str → Option Value) (base : Heap) (k : Nat) (x : Str) (ps : List Str) (sp : Sp) : Prop :=
  ∃ f fd, mg x = some (.ref f) ∧ PySem.W.keepIn K (.ref f) = true ∧ Binds K fd ps [] ∧ FnG P w K mg base k f fd ps sp
def MDefG (R : Addr → Addr → Prop) (P : Program) (w : World) (K : PySem.W.Frag) (mg : Str → Option Value) (base : Heap) (k : Nat) (ps : List Str) (sp : Sp) : Prop :=
  ∃ p f fd, R p f ∧ Binds K fd ps [] ∧ FnG P w K mg base k f fd ps sp
theorem FnG.of {P : Program} {w : World} {K : PySem.W.Frag} {mg : Str → Option Value} {base : Heap} {k : Nat} {f : Addr} {fd : FuncData} {ps : List Str} {sp : Sp} (F : FnOk P w K mg base CX0 k f fd ps sp) : FnG P w K mg base k f fd ps sp :=
  ⟨F.len, fun A out s H ar us vs Q E _ hr => F.run A out s H ar us vs Q E hr⟩
section
variable {P : Program} {w : World} {K : PySem.W.Frag} {mg : Str → Option Value} {base : Heap}
theorem okG {x ql : Str} {st : Stmt} {f : Addr} {fd : FuncData} {N ps : List Str} {k : Nat} {sp : Sp} (F : Fun K x ql st f fd) (S : FnScope N ps (defScope st))
    (size : ∀ vs H Q E, sp vs H Q E → vs.length = ps.length)
    (body : ∀ (cv : Value) (A : Around) (out : List Env) (s : Shared) (H : Hp) (vs : List V) (Q : VK) (E : XK), A.guards = some [] →
      Room k (A.deeper (envOfC ql (defScope st) s.heap.objs.size f cv)) → sp vs H Q E →
      ∃ t, PSs (cxOf CX0 P w K mg base N ql (defScope st) f cv A out s H E).nox (defBody st) t ∧ t { nx := fun _ G => Q .non G, rt := Q } (start N vs) H) :
    FnG P w K mg base (k + 1) f fd ps sp := by
  obtain ⟨oc, od, kV, dc, pm, an, cv, ct, osl, rfl, lk, hc⟩ := F.ex
  constructor
  · exact size
  intro A out s H ar us vs Q E hg hr e0 hb r hs
  have hl := size _ _ _ _ hs
  have inK : K.In s.heap := e0.mod.kin.keeps (fun b o e => And.left (e0.bs b o e))
  have lm : s.heap.NoLimit := e0.mod.nolimit.keeps (fun b o e => And.left (e0.bs b o e))
  refine codeAny_call_function hr.depth (inK _ _ lk) rfl S.co S.gen rfl (PySem.W.codeRec_of inK hc) (hb _ _ _ _ ?_)
  have kd : ∀ y ∈ ps.zip us, (defScope st).names.lookup y.1 = some .local ∨ ((defScope st).names.lookup y.1 = some .cell ∧ ((cellsFrom (s.heap.objs.size + 1) (defScope st).names []).lookup y.1).isSome = true) := by
    rintro ⟨n, v⟩ hy
    have hp := S.par n (List.of_mem_zip hy).1
    rcases hp with z | z
    · left; exact z
    · right; exact ⟨z, PySem.W.cellsFrom_some _ _ _ (Or.inl z)⟩
  refine wpAny_newFunctionEnv_cells S.kind kd fun env he s1 z => ?_
  cases he
  refine ⟨lm.keeps z.toInCall.keep, codeAny_func ?_⟩
  obtain ⟨t, ht, hq⟩ := body cv A out s H vs Q E hg (hr.deeper _) hs
  have I := inv_start (CX := CX0) (E := E) S hr.hd e0 hl r z
  have fin : ∀ {σ' : L2.St} {G : Hp} {v : V} {u : Value} {s' : Shared}, Inv (cxOf CX0 P w K mg base N ql (defScope st) f cv A out s H E) [] σ' G s' → RelV v u → Q v G → CE out P w H s Q u s' := by
    intro σ' G v u s' J rv q
    exact ⟨v, G, J.os, J.bare, J.base, J.hok, rv, q⟩
  refine wpAny_mono (ht.nox.run [] s1 (start N vs) H _ I hq) (fun fl s' hs => ?_) fun _ _ z => z
  match fl, hs with
  | .ret u, hs => obtain ⟨v, _, G, J, rv, q⟩ := hs; exact fin J rv q
  | .next, hs => obtain ⟨_, G, J, q⟩ := hs; exact fin (u := Value.none) (v := V.non) J rfl q
  | .brk, hs => obtain ⟨_, _, _, q⟩ := hs; exact q.elim
  | .cont, hs => obtain ⟨_, _, _, q⟩ := hs; exact q.elim
end
section
variable {X : Cx} {k : Nat} {f C : Addr} {fd : FuncData} {ps : List Str} {sp : Sp} {x : Str} {p pos : Pos} {e : Expr} {es : List Expr} {t : TA}
theorem runG {A : Around} {pins : List (Addr × Obj)} {σ : L2.St} {H : Hp} {s : Shared} {Q : VK} {us : List Value} {vs : List V} (F : FnG X.prog X.w X.K X.mg X.base k f fd ps sp) (hg : A.guards = some []) (hr : Room k A)
    (e0 : Env0 X.prog X.w X.K X.mg X.base A X.stack s H) (hb : Binds X.K fd ps []) (I : Inv X pins σ H s) (r : Vals vs us) (h : sp vs H Q E0) : wpAny (model X.prog X.w) A (call (.ref f) us) (EP X pins σ Q) X.xe s := by
  have hl : (us ++ []).length = ps.length := by rw [List.append_nil, ← r.length]; exact F.size _ _ _ _ h
  have b := hb s us I.kIn hl
  rw [List.append_nil] at b
  refine wpAny_call (codeAny_mono (F.runs A X.stack s H ⟨us, []⟩ us vs Q E0 hg hr e0 b r h) fun z s' hq => ?_)
  match z, hq with
  | .error _, hq => exact hq.elim
  | .ok (.ret u), hq => exact I.after hq
  | .ok .next, hq => exact hq.elim
  | .ok .brk, hq => exact hq.elim
  | .ok .cont, hq => exact hq.elim
theorem pe_callG (F : FnG X.prog X.w X.K X.mg X.base k f fd ps sp) (hG : X.A.guards = some []) (hr : Room k X.A) (hg : Gl X x) (hm : X.mg x = some (.ref f)) (hk : PySem.W.keepIn X.K (.ref f) = true) (hb : Binds X.K fd ps [])
    (ha : PA X (e :: es) t) (hd : (x == ("__debug__" : Str)) = false := by decide) (he : starEach (e :: es) X.env = (false, eval e X.env) :: starEach es X.env := by rfl) (hp : (backTo pos (starEach es X.env)).any (·.1) = false := by rfl) :
    PE X (.Call (.Name x p) (e :: es) [] pos) (tCall sp [] E0 t) := by
  constructor
  intro pins s σ H Q I h
  refine wpAny_Call_Name_kw (ld_glob I hg hm ?_ hd)
  refine PySem.W.callWith_K (h₀ := X.base) I.ok.mod.kin hk (thn (ha.run pos pins s σ H _ I h) fun us s1 ⟨vs, H1, I1, r, q⟩ => ⟨I1.kIn, ?_⟩) he hp
  refine runG F hG hr I1.env0 hb I1 r ?_
  have q' : sp (vs ++ []) H1 Q E0 := q
  rwa [List.append_nil] at q'
theorem call_strI (c : Meth X.K C "__str__" f) (F : FnG X.prog X.w X.K X.mg X.base k f fd ps sp) (hb : Binds X.K fd ps []) (hG : X.A.guards = some []) (hr : Room (k + 2) X.A) :
    CallR X (.type "str") (fun xs H Q => ∃ a dx fs, xs = [.ref a] ∧ H a = some (.ins C dx fs) ∧ sp [.ref a] H (fun v G => ∃ y, v = .str y ∧ Q (.str y) G) E0) := by
  intro pins s σ H xs us Q I r h
  obtain ⟨a, dx, fs, rfl, ha, q⟩ := h
  obtain rfl := Vals.ref1 r
  obtain ⟨mA, J, _⟩ := ins_get I.hok ha
  obtain ⟨od, J, _⟩ := J.look
  have hu := hr.units
  refine PySem.W.kso_call (by show X.A.units + 1 + 1 < cLine; omega) I.kIn J c.at_ c.fn ?_
  refine wpAny_mono (runG (A := X.A.in1.in1) F hG hr.in1.in1 I.env0.in1.in1 hb I (.cons (show RelV (.ref a) (.ref a) from rfl) .nil) q) (fun u s' hq => ?_) fun _ _ z => z
  obtain ⟨v, H', I3, rv, y, rfl, q3⟩ := hq
  obtain ⟨tk, rfl⟩ := rv
  exact ⟨.str y, H', I3, ⟨tk, rfl⟩, q3⟩
theorem call_strD (hG : X.A.guards = some []) (hr : Room k X.A) :
    CallR X (.type "str") (fun xs H Q => ∃ (a : Addr) (d : PyData), xs = [.ref a] ∧ Dp X.K H (.ref a) d ∧ d.showable = true ∧ d.hasDict = false ∧ d.depth ≤ 40 ∧ d.shown.length ≤ sizeLine ∧ Q (.str d.shown) H) := by
  intro pins s σ H xs us Q I r h
  obtain ⟨a, d, rfl, hd, h1, h2, h3, h4, q⟩ := h
  obtain rfl := Vals.ref1 r
  obtain ⟨as, rd⟩ := Dp.reads I d _ _ hd (show RelV (.ref a) (.ref a) from rfl)
  have hu := hr.units
  refine str_of_reads rd h1 (fun z => by rw [h2] at z; cases z) hG (by omega) (fun _ _ z => z) (fun h' u tk hk => ?_) h4
  exact ⟨.str d.shown, H, I.kept hk, ⟨u, rfl⟩, q⟩
end
section
variable {X : Cx} {k : Nat} {f C : Addr} {fd : FuncData} {ps : List Str} {sp : Sp} {pos : Pos} {e : Expr} {te : TE}
structure FmtC (K : PySem.W.Frag) (C : Addr) : Prop where
  fm : PySem.W.findIn K (.ref C) "__format__" = some (some (.builtin "object.__format__"))
  mr : PySem.W.mroIn K C (.type "object") = some true
theorem pe_fmtI (m : FmtC X.K C) (c : Meth X.K C "__str__" f) (F : FnG X.prog X.w X.K X.mg X.base k f fd ps sp) (hb : Binds X.K fd ps []) (hG : X.A.guards = some []) (hr : Room (k + 1) X.A) (he : PE X e te) :
    PE X (.FormattedValue e (-1) none pos) (fun σ H Q => te σ H fun x H1 => ∃ a dx fs, x = .ref a ∧ H1 a = some (.ins C dx fs) ∧ sp [.ref a] H1 (fun v G => ∃ y, v = .str y ∧ Q (.str y) G) E0) := by
  constructor
  intro pins s σ H Q I h
  refine wpAny_FormattedValue_plain (thn (he.run pins s σ H _ I h) fun v s1 hv => ?_)
  obtain ⟨x, H1, I1, r1, a, dx, fs, rfl, ha, q⟩ := hv
  cases (show v = .ref a from r1)
  obtain ⟨mA, J, _⟩ := ins_get I1.hok ha
  obtain ⟨od, J, _⟩ := J.look
  have hu := hr.units
  refine PySem.W.kfo_fieldS (by show X.A.units + 1 < cLine; omega) I1.kIn J m.fm m.mr c.at_ c.fn ?_
  have I2 := I1.tok (s1.toks + 1)
  refine wpAny_mono (runG (A := X.A.in1) F hG hr.in1 I2.env0.in1 hb I2 (.cons (show RelV (.ref a) (.ref a) from rfl) .nil) q) (fun u s' hq => ?_) fun _ _ z => z
  obtain ⟨v, H', I3, rv, y, rfl, q3⟩ := hq
  obtain ⟨tk, rfl⟩ := rv
  exact ⟨.str y, H', I3, ⟨tk, rfl⟩, q3⟩
end
theorem law_callG {P : Program} {w : World} {K : PySem.W.Frag} {mg mb : Str → Option Value} {k : Nat} {fa a : Addr} {fd : FuncData} {x : Str} {sp : Sp} {s : Shared} {vs : List Value} {ns : List Int}
    (inK : K.In s.heap) (nsG : s.heap.Ns mainGlobals mg) (nsB : s.heap.Ns builtinsNs mb) (boot : ∀ y : Str, y ≠ "__name__" → mb y = bootBuiltins y) (lim : s.heap.NoLimit) (gens : s.gens = #[])
    (hat : s.heap.get? a = some { cls := .type "list", data := .seq vs.toArray }) (ii : IntsAre vs ns) (le : ns.length ≤ sizeLine) (room : Room k callerA)
    (F : ∀ base : Heap, K.In base → base.Ns mainGlobals mg → FnG P w K mg base k fa fd [x] sp) (bind : ∀ (s : Shared) (u : Value), BindsTo s fd ⟨[u], []⟩ [(x, u)])
    (prom : ∀ H : Hp, Only H → SqL K H a (ns.map V.int) → sp [.ref a] H (fun v _ => v = .bl true) E0) :
    codeAny (model P w) callerA (.call (.ref fa) ⟨[.ref a], []⟩) (fun r s' => r = .ok (.ret (.bool true)) ∧ OldK s.heap s'.heap ∧ s'.os = s.os ∧ AllBare s'.gens) s := by
  have vals := vals_ints ii
  have lens := ii.length
  have main : ∀ H : Hp, Only H → SqL K H a (ns.map V.int) → HOk P w H s.heap → (∀ b, H b ≠ none → b = a ∧ K.lookup a = none) →
      codeAny (model P w) callerA (.call (.ref fa) ⟨[.ref a], []⟩) (fun r s' => r = .ok (.ret (.bool true)) ∧ OldK s.heap s'.heap ∧ s'.os = s.os ∧ AllBare s'.gens) s := by
    intro H only sq ok one
    have stay : ∀ {b : Addr} {o : Obj}, s.heap.get? b = some o → (∀ ys n, o.data ≠ .seq ys n) → (hidT s.heap H).get? b = some o := by
      intro b o e nd
      refine hidT_get e ?_
      cases z : H b with
      | none => rfl
      | some u =>
        exfalso
        have z1 := (one b (by rw [z]; exact Option.some_ne_none _)).1
        rw [z1, hat] at e
        injection e with e
        exact nd _ _ (by rw [← e])
    have tabs : ∀ {b : Addr} {m : Str → Option Value}, s.heap.Ns b m → (hidT s.heap H).Ns b m := by
      rintro b m ⟨o, es, ep, e, d, r⟩
      exact ⟨o, es, ep, stay e (fun ys n z => by rw [d] at z; cases z), d, r⟩
    have inB : K.In (hidT s.heap H) := by
      intro b o e
      refine hidT_get (inK b o e) ?_
      cases z : H b with
      | none => rfl
      | some u =>
        exfalso
        obtain ⟨z1, z2⟩ := one b (by rw [z]; exact Option.some_ne_none _)
        rw [z1, z2] at e
        cases e
    obtain ⟨mc, lm1, lm2⟩ := lim
    have md : Mod K mg (hidT s.heap H) := ⟨inB, tabs nsG, ⟨mb, tabs nsB, boot⟩, ⟨mc, tabs lm1, lm2⟩⟩
    have e0 : Env0 P w K mg (hidT s.heap H) callerA [] s H := by
      refine ⟨rfl, md, fun b o e => of_hidT e, ?_, trivial, ?_, ok, .of_eq gens⟩
      · rw [hidT_size]; exact Nat.le_refl _
      · intro b hb; exact (List.not_mem_nil hb).elim
    refine codeAny_mono ((F _ inB (tabs nsG)).runs callerA [] s H ⟨[.ref a], []⟩ [.ref a] [.ref a] _ E0 rfl room e0 (bind s (.ref a)) (.cons (show RelV (.ref a) (.ref a) from rfl) .nil) (prom H only sq)) (fun r s' h => ?_)
    match r, h with
    | .error _, h => exact h.elim
    | .ok .next, h => exact h.elim
    | .ok .brk, h => exact h.elim
    | .ok .cont, h => exact h.elim
    | .ok (.ret u), h =>
      obtain ⟨v, G, os, bare, un, ok2, rv, q⟩ := h
      cases (show v = .bl true from q)
      cases (show u = Value.bool true from rv)
      refine ⟨rfl, OldK.of_keep (fun b o e => ?_), os, bare⟩
      cases z : H b with
      | none => exact un.keep b o e z (fun y => List.not_mem_nil y) (fun y => List.not_mem_nil y)
      | some u =>
        rcases only b with y | ⟨ob, xs, y⟩
        · rw [z] at y; cases y
        have y2 := un.frzs b ob _ y
        have p1 := (ok b _ y).1
        rw [e] at p1
        injection p1 with p1
        rw [p1]
        exact (ok2 b _ y2).1
  have size : vs.toArray.size ≤ sizeLine := by rw [List.size_toArray, lens]; exact le
  cases hk : K.lookup a with
  | some o =>
    have e := inK a o hk
    rw [hat] at e
    injection e with e
    refine main (fun _ => none) (fun _ => Or.inl rfl) (Or.inr ⟨o, vs.toArray, 0, hk, by rw [← e], by rw [← e], by rw [← e], ?_, by simpa using vals⟩) (fun b u z => by cases (show (none : Option HO) = some u from z)) (fun b z => absurd rfl z)
    exact size
  | none =>
    have at_ : ∀ b, b = a → (fun b => if b = a then some (HO.frz { cls := .type "list", data := .seq vs.toArray } (.lst (ns.map V.int))) else none : Hp) b = some (HO.frz { cls := .type "list", data := .seq vs.toArray } (.lst (ns.map V.int))) := fun b z => if_pos z
    have no_ : ∀ b, b ≠ a → (fun b => if b = a then some (HO.frz { cls := .type "list", data := .seq vs.toArray } (.lst (ns.map V.int))) else none : Hp) b = none := fun b z => if_neg z
    refine main (fun b => if b = a then some (HO.frz { cls := .type "list", data := .seq vs.toArray } (.lst (ns.map V.int))) else none) (fun b => ?_) (Or.inl (Or.inr ⟨_, at_ a rfl⟩)) (fun b u z => ?_) (fun b z => ?_)
    · by_cases y : b = a
      · exact Or.inr ⟨_, _, at_ b y⟩
      · exact Or.inl (no_ b y)
    · by_cases y : b = a
      · have z2 := (at_ b y).symm.trans z
        injection z2 with z2
        subst z2
        subst y
        exact ⟨hat, by rw [List.length_map]; exact le, vs, _, vals, hat⟩
      · have z2 := (no_ b y).symm.trans z
        cases z2
    · by_cases y : b = a
      · exact ⟨y, hk⟩
      · exact absurd (no_ b y) z
theorem walkG {l : PySem.W.OpenLaw} {n k : Nat} {q : Program} {loose : List Str} {XP : (Str → Option Value) → Heap → Prop} {YP : World → Heap → Prop} {d : DefRec} {x : Str}
    (most : l.most = some n) (le : n ≤ sizeLine) (df : d.params.defaults = []) (room : Room k callerA)
    (F : ∀ (w : World) (mg : Str → Option Value) (fa : Addr) (h : Heap), YP w h → h.Ns mainGlobals mg → mg d.name = some (.ref fa) →
      ∃ (K : PySem.W.Frag) (fd : FuncData) (sp : Sp), K.In h ∧ (∀ (s : Shared) (u : Value), BindsTo s fd ⟨[u], []⟩ [(x, u)]) ∧
        (∀ (H : Hp) (a : Addr) (ns : List Int), ns.length ≤ n → Only H → SqL K H a (ns.map V.int) → sp [.ref a] H (fun v _ => v = .bl true) E0) ∧
        ∀ base : Heap, K.In base → base.Ns mainGlobals mg → FnG l.prog w K mg base k fa fd [x] sp) :
    PySem.W.WalkO q loose XP YP l.row.toRowW d [] (fun f vs => PySem.call f vs) := by
  refine Att.attach_call most df (fun w _ s mg mb fa _ _ _ _ a vs ns G Y _ _ _ hm hobj hi hl hg => ?_)
  obtain ⟨K, fd, sp, inK, hb, hs, hF⟩ := F w mg fa _ Y G.T.g hm
  exact law_callG inK G.T.g G.T.b G.T.builtins G.T.nolimit hg hobj hi (Nat.le_trans hl le) room hF hb (fun H only z => hs H a ns hl only z)
end Gd
namespace TF
open PySem PySem.Spec PyProof.Rows L2 Fr
open K05M (fv fl2 fl3 fdisc)
open K06M
def Tq (K : PySem.W.Frag) (H : Hp) (a : Addr) (p q r s : Int) : Prop := ∃ t1 t2, SqT K H a [.ref t1, .ref t2] ∧ SqT K H t1 [.int p, .int q] ∧ SqT K H t2 [.int r, .int s]
theorem tq_k {K : PySem.W.Frag} {H : Hp} {a b c : Addr} {o0 o1 o2 : Option Addr} {s0 s1 s2 : Array (Option Value)} {n0 n1 n2 : Nat} {p q r s : Int} {t1 t2 t3 t4 : Tok} (h0 : K.lookup a = some ⟨.type "tuple", o0, .seq #[.ref b, .ref c] n0, s0⟩) (h1 : K.lookup b = some ⟨.type "tuple", o1, .seq #[.int p t1, .int q t2] n1, s1⟩) (h2 : K.lookup c = some ⟨.type "tuple", o2, .seq #[.int r t3, .int s t4] n2, s2⟩) : Tq K H a p q r s :=
  ⟨b, c, .inr ⟨_, _, _, h0, rfl, rfl, by show 2 ≤ sizeLine; decide, .cons rfl (.cons rfl .nil)⟩, .inr ⟨_, _, _, h1, rfl, rfl, by show 2 ≤ sizeLine; decide, .cons ⟨_, rfl⟩ (.cons ⟨_, rfl⟩ .nil)⟩, .inr ⟨_, _, _, h2, rfl, rfl, by show 2 ≤ sizeLine; decide, .cons ⟨_, rfl⟩ (.cons ⟨_, rfl⟩ .nil)⟩⟩
def topS (i : Nat) : Stmt := PySem.Challenge.pw_formrings_k77_whole_turning_forms_and_fo.main.body.getD i (.Pass ⟨0, 0, 0, 0⟩)
abbrev s_is_any_integer : Stmt := topS 13
abbrev N_is_any_integer : List Str := ["value"]
theorem sc_is_any_integer : FnScope N_is_any_integer ["value"] (defScope s_is_any_integer) := ⟨rfl, rfl, rfl, by decide +kernel, rfl, by decide +kernel, by decide +kernel⟩
abbrev s_is_short_integer : Stmt := topS 14
abbrev N_is_short_integer : List Str := ["value"]
theorem sc_is_short_integer : FnScope N_is_short_integer ["value"] (defScope s_is_short_integer) := ⟨rfl, rfl, rfl, by decide +kernel, rfl, by decide +kernel, by decide +kernel⟩
abbrev s_are_any_integers : Stmt := topS 16
abbrev N_are_any_integers : List Str := ["value", "many", "number"]
theorem sc_are_any_integers : FnScope N_are_any_integers ["value", "many"] (defScope s_are_any_integers) := ⟨rfl, rfl, rfl, by decide +kernel, rfl, by decide +kernel, by decide +kernel⟩
abbrev s_are_short_integers : Stmt := topS 17
abbrev N_are_short_integers : List Str := ["value", "many", "n"]
theorem sc_are_short_integers : FnScope N_are_short_integers ["value", "many"] (defScope s_are_short_integers) := ⟨rfl, rfl, rfl, by decide +kernel, rfl, by decide +kernel, by decide +kernel⟩
abbrev s_check_integer : Stmt := topS 19
abbrev N_check_integer : List Str := ["value"]
theorem sc_check_integer : FnScope N_check_integer ["value"] (defScope s_check_integer) := ⟨rfl, rfl, rfl, by decide +kernel, rfl, by decide +kernel, by decide +kernel⟩
abbrev s_shared_divisor : Stmt := topS 22
abbrev N_shared_divisor : List Str := ["numbers", "shared", "number"]
theorem sc_shared_divisor : FnScope N_shared_divisor ["numbers"] (defScope s_shared_divisor) := ⟨rfl, rfl, rfl, by decide +kernel, rfl, by decide +kernel, by decide +kernel⟩
abbrev s_determinant_of : Stmt := topS 25
abbrev N_determinant_of : List Str := ["change", "p", "q", "r", "s"]
theorem sc_determinant_of : FnScope N_determinant_of ["change"] (defScope s_determinant_of) := ⟨rfl, rfl, rfl, by decide +kernel, rfl, by decide +kernel, by decide +kernel⟩
abbrev s_is_change : Stmt := topS 26
abbrev N_is_change : List Str := ["value", "row"]
theorem sc_is_change : FnScope N_is_change ["value"] (defScope s_is_change) := ⟨rfl, rfl, rfl, by decide +kernel, rfl, by decide +kernel, by decide +kernel⟩
abbrev s_is_short_change : Stmt := topS 27
abbrev N_is_short_change : List Str := ["value", "row"]
theorem sc_is_short_change : FnScope N_is_short_change ["value"] (defScope s_is_short_change) := ⟨rfl, rfl, rfl, by decide +kernel, rfl, by decide +kernel, by decide +kernel⟩
abbrev s_check_change : Stmt := topS 28
abbrev N_check_change : List Str := ["value"]
theorem sc_check_change : FnScope N_check_change ["value"] (defScope s_check_change) := ⟨rfl, rfl, rfl, by decide +kernel, rfl, by decide +kernel, by decide +kernel⟩
abbrev s_both : Stmt := topS 29
abbrev N_both : List Str := ["first", "second", "p", "q", "r", "s", "i", "j", "k", "m"]
theorem sc_both : FnScope N_both ["first", "second"] (defScope s_both) := ⟨rfl, rfl, rfl, by decide +kernel, rfl, by decide +kernel, by decide +kernel⟩
abbrev s_double_value : Stmt := topS 31
abbrev N_double_value : List Str := ["coefficients", "x", "y", "first", "middle", "last"]
theorem sc_double_value : FnScope N_double_value ["coefficients", "x", "y"] (defScope s_double_value) := ⟨rfl, rfl, rfl, by decide +kernel, rfl, by decide +kernel, by decide +kernel⟩
abbrev s_double_discriminant : Stmt := topS 32
abbrev N_double_discriminant : List Str := ["coefficients", "first", "middle", "last"]
theorem sc_double_discriminant : FnScope N_double_discriminant ["coefficients"] (defScope s_double_discriminant) := ⟨rfl, rfl, rfl, by decide +kernel, rfl, by decide +kernel, by decide +kernel⟩
abbrev s_double_led : Stmt := topS 33
abbrev N_double_led : List Str := ["coefficients", "change", "first", "middle", "last", "p", "q", "r", "s", "between"]
theorem sc_double_led : FnScope N_double_led ["coefficients", "change"] (defScope s_double_led) := ⟨rfl, rfl, rfl, by decide +kernel, rfl, by decide +kernel, by decide +kernel⟩
abbrev s_double_of : Stmt := topS 34
abbrev N_double_of : List Str := ["coefficients", "double"]
theorem sc_double_of : FnScope N_double_of ["coefficients"] (defScope s_double_of) := ⟨rfl, rfl, rfl, by decide +kernel, rfl, by decide +kernel, by decide +kernel⟩
abbrev s_Double___init__ : Stmt := inClass (topS 35) 0
abbrev N_Double___init__ : List Str := ["self", "coefficients"]
theorem sc_Double___init__ : FnScope N_Double___init__ ["self", "coefficients"] (defScope s_Double___init__) := ⟨rfl, rfl, rfl, by decide +kernel, rfl, by decide +kernel, by decide +kernel⟩
abbrev s_Double_coefficients : Stmt := inClass (topS 35) 1
abbrev N_Double_coefficients : List Str := ["self"]
theorem sc_Double_coefficients : FnScope N_Double_coefficients ["self"] (defScope s_Double_coefficients) := ⟨rfl, rfl, rfl, by decide +kernel, rfl, by decide +kernel, by decide +kernel⟩
abbrev s_Double_discriminant : Stmt := inClass (topS 35) 2
abbrev N_Double_discriminant : List Str := ["self"]
theorem sc_Double_discriminant : FnScope N_Double_discriminant ["self"] (defScope s_Double_discriminant) := ⟨rfl, rfl, rfl, by decide +kernel, rfl, by decide +kernel, by decide +kernel⟩
abbrev s_Double_content : Stmt := inClass (topS 35) 3
abbrev N_Double_content : List Str := ["self"]
theorem sc_Double_content : FnScope N_Double_content ["self"] (defScope s_Double_content) := ⟨rfl, rfl, rfl, by decide +kernel, rfl, by decide +kernel, by decide +kernel⟩
abbrev s_Double___call__ : Stmt := inClass (topS 35) 4
abbrev N_Double___call__ : List Str := ["self", "x", "y"]
theorem sc_Double___call__ : FnScope N_Double___call__ ["self", "x", "y"] (defScope s_Double___call__) := ⟨rfl, rfl, rfl, by decide +kernel, rfl, by decide +kernel, by decide +kernel⟩
abbrev s_Double_led : Stmt := inClass (topS 35) 5
abbrev N_Double_led : List Str := ["self", "change"]
theorem sc_Double_led : FnScope N_Double_led ["self", "change"] (defScope s_Double_led) := ⟨rfl, rfl, rfl, by decide +kernel, rfl, by decide +kernel, by decide +kernel⟩
abbrev s_Double___neg__ : Stmt := inClass (topS 35) 6
abbrev N_Double___neg__ : List Str := ["self", "number"]
theorem sc_Double___neg__ : FnScope N_Double___neg__ ["self"] (defScope s_Double___neg__) := ⟨rfl, rfl, rfl, by decide +kernel, rfl, by decide +kernel, by decide +kernel⟩
abbrev s_Double___eq__ : Stmt := inClass (topS 35) 7
abbrev N_Double___eq__ : List Str := ["self", "other"]
theorem sc_Double___eq__ : FnScope N_Double___eq__ ["self", "other"] (defScope s_Double___eq__) := ⟨rfl, rfl, rfl, by decide +kernel, rfl, by decide +kernel, by decide +kernel⟩
abbrev s_Double___str__ : Stmt := inClass (topS 35) 8
abbrev N_Double___str__ : List Str := ["self"]
theorem sc_Double___str__ : FnScope N_Double___str__ ["self"] (defScope s_Double___str__) := ⟨rfl, rfl, rfl, by decide +kernel, rfl, by decide +kernel, by decide +kernel⟩
abbrev s_form_value : Stmt := topS 37
abbrev N_form_value : List Str := ["coefficients", "x", "y", "a", "b", "c", "d"]
theorem sc_form_value : FnScope N_form_value ["coefficients", "x", "y"] (defScope s_form_value) := ⟨rfl, rfl, rfl, by decide +kernel, rfl, by decide +kernel, by decide +kernel⟩
abbrev s_form_discriminant : Stmt := topS 38
abbrev N_form_discriminant : List Str := ["coefficients", "a", "b", "c", "d"]
theorem sc_form_discriminant : FnScope N_form_discriminant ["coefficients"] (defScope s_form_discriminant) := ⟨rfl, rfl, rfl, by decide +kernel, rfl, by decide +kernel, by decide +kernel⟩
abbrev s_form_hessian : Stmt := topS 39
abbrev N_form_hessian : List Str := ["coefficients", "a", "b", "c", "d"]
theorem sc_form_hessian : FnScope N_form_hessian ["coefficients"] (defScope s_form_hessian) := ⟨rfl, rfl, rfl, by decide +kernel, rfl, by decide +kernel, by decide +kernel⟩
abbrev s_form_led : Stmt := topS 40
abbrev N_form_led : List Str := ["coefficients", "change", "a", "b", "c", "d", "p", "q", "r", "s", "e", "second", "third"]
theorem sc_form_led : FnScope N_form_led ["coefficients", "change"] (defScope s_form_led) := ⟨rfl, rfl, rfl, by decide +kernel, rfl, by decide +kernel, by decide +kernel⟩
abbrev s_check_form : Stmt := topS 41
abbrev N_check_form : List Str := ["value"]
theorem sc_check_form : FnScope N_check_form ["value"] (defScope s_check_form) := ⟨rfl, rfl, rfl, by decide +kernel, rfl, by decide +kernel, by decide +kernel⟩
abbrev s_form_of : Stmt := topS 42
abbrev N_form_of : List Str := ["coefficients", "form"]
theorem sc_form_of : FnScope N_form_of ["coefficients"] (defScope s_form_of) := ⟨rfl, rfl, rfl, by decide +kernel, rfl, by decide +kernel, by decide +kernel⟩
abbrev s_Form___init__ : Stmt := inClass (topS 43) 0
abbrev N_Form___init__ : List Str := ["self", "coefficients"]
theorem sc_Form___init__ : FnScope N_Form___init__ ["self", "coefficients"] (defScope s_Form___init__) := ⟨rfl, rfl, rfl, by decide +kernel, rfl, by decide +kernel, by decide +kernel⟩
abbrev s_Form_coefficients : Stmt := inClass (topS 43) 2
abbrev N_Form_coefficients : List Str := ["self"]
theorem sc_Form_coefficients : FnScope N_Form_coefficients ["self"] (defScope s_Form_coefficients) := ⟨rfl, rfl, rfl, by decide +kernel, rfl, by decide +kernel, by decide +kernel⟩
abbrev s_Form_discriminant : Stmt := inClass (topS 43) 3
abbrev N_Form_discriminant : List Str := ["self"]
theorem sc_Form_discriminant : FnScope N_Form_discriminant ["self"] (defScope s_Form_discriminant) := ⟨rfl, rfl, rfl, by decide +kernel, rfl, by decide +kernel, by decide +kernel⟩
abbrev s_Form_content : Stmt := inClass (topS 43) 4
abbrev N_Form_content : List Str := ["self"]
theorem sc_Form_content : FnScope N_Form_content ["self"] (defScope s_Form_content) := ⟨rfl, rfl, rfl, by decide +kernel, rfl, by decide +kernel, by decide +kernel⟩
abbrev s_Form_hessian : Stmt := inClass (topS 43) 5
abbrev N_Form_hessian : List Str := ["self"]
theorem sc_Form_hessian : FnScope N_Form_hessian ["self"] (defScope s_Form_hessian) := ⟨rfl, rfl, rfl, by decide +kernel, rfl, by decide +kernel, by decide +kernel⟩
abbrev s_Form___call__ : Stmt := inClass (topS 43) 7
abbrev N_Form___call__ : List Str := ["self", "x", "y"]
theorem sc_Form___call__ : FnScope N_Form___call__ ["self", "x", "y"] (defScope s_Form___call__) := ⟨rfl, rfl, rfl, by decide +kernel, rfl, by decide +kernel, by decide +kernel⟩
abbrev s_Form_led : Stmt := inClass (topS 43) 8
abbrev N_Form_led : List Str := ["self", "change"]
theorem sc_Form_led : FnScope N_Form_led ["self", "change"] (defScope s_Form_led) := ⟨rfl, rfl, rfl, by decide +kernel, rfl, by decide +kernel, by decide +kernel⟩
abbrev s_Form_times : Stmt := inClass (topS 43) 9
abbrev N_Form_times : List Str := ["self", "number", "coefficient"]
theorem sc_Form_times : FnScope N_Form_times ["self", "number"] (defScope s_Form_times) := ⟨rfl, rfl, rfl, by decide +kernel, rfl, by decide +kernel, by decide +kernel⟩
abbrev s_Form___neg__ : Stmt := inClass (topS 43) 13
abbrev N_Form___neg__ : List Str := ["self", "number"]
theorem sc_Form___neg__ : FnScope N_Form___neg__ ["self"] (defScope s_Form___neg__) := ⟨rfl, rfl, rfl, by decide +kernel, rfl, by decide +kernel, by decide +kernel⟩
abbrev s_Form___eq__ : Stmt := inClass (topS 43) 17
abbrev N_Form___eq__ : List Str := ["self", "other"]
theorem sc_Form___eq__ : FnScope N_Form___eq__ ["self", "other"] (defScope s_Form___eq__) := ⟨rfl, rfl, rfl, by decide +kernel, rfl, by decide +kernel, by decide +kernel⟩
abbrev s_shift : Stmt := topS 47
abbrev N_shift : List Str := ["times"]
theorem sc_shift : FnScope N_shift ["times"] (defScope s_shift) := ⟨rfl, rfl, rfl, by decide +kernel, rfl, by decide +kernel, by decide +kernel⟩
abbrev s_double_step : Stmt := topS 48
abbrev N_double_step : List Str := ["double", "first", "middle", "last", "times"]
theorem sc_double_step : FnScope N_double_step ["double"] (defScope s_double_step) := ⟨rfl, rfl, rfl, by decide +kernel, rfl, by decide +kernel, by decide +kernel⟩
abbrev s_double_way : Stmt := topS 49
abbrev N_double_way : List Str := ["double", "change", "left", "step"]
theorem sc_double_way : FnScope N_double_way ["double"] (defScope s_double_way) := ⟨rfl, rfl, rfl, by decide +kernel, rfl, by decide +kernel, by decide +kernel⟩
abbrev s_turning : Stmt := topS 51
abbrev N_turning : List Str := ["first", "second"]
theorem sc_turning : FnScope N_turning ["first", "second"] (defScope s_turning) := ⟨rfl, rfl, rfl, by decide +kernel, rfl, by decide +kernel, by decide +kernel⟩
abbrev s_is_whole_square : Stmt := topS 52
abbrev N_is_whole_square : List Str := ["number"]
theorem sc_is_whole_square : FnScope N_is_whole_square ["number"] (defScope s_is_whole_square) := ⟨rfl, rfl, rfl, by decide +kernel, rfl, by decide +kernel, by decide +kernel⟩
abbrev s_turning_form : Stmt := topS 53
abbrev N_turning_form : List Str := ["first", "second"]
theorem sc_turning_form : FnScope N_turning_form ["first", "second"] (defScope s_turning_form) := ⟨rfl, rfl, rfl, by decide +kernel, rfl, by decide +kernel, by decide +kernel⟩
abbrev s_is_turning : Stmt := topS 54
abbrev N_is_turning : List Str := ["form", "number", "hessian", "first", "middle", "last"]
theorem sc_is_turning : FnScope N_is_turning ["form"] (defScope s_is_turning) := ⟨rfl, rfl, rfl, by decide +kernel, rfl, by decide +kernel, by decide +kernel⟩
abbrev s_l_cask : Stmt := topS 56
abbrev N_l_cask : List Str := ["_law_script", "_law_spot", "_law_cell", "_law_great", "_law_mixed"]
theorem sc_l_cask : FnScope N_l_cask ["_law_script", "_law_spot"] (defScope s_l_cask) := ⟨rfl, rfl, rfl, by decide +kernel, rfl, by decide +kernel, by decide +kernel⟩
abbrev s_l_tap : Stmt := topS 57
abbrev N_l_tap : List Str := ["_law_cask_here", "_law_many", "_law_found", "_law_one_here", "_law_two"]
theorem sc_l_tap : FnScope N_l_tap ["_law_cask_here", "_law_many"] (defScope s_l_tap) := ⟨rfl, rfl, rfl, by decide +kernel, rfl, by decide +kernel, by decide +kernel⟩
abbrev s_l_one : Stmt := topS 58
abbrev N_l_one : List Str := ["_law_cask_here", "_law_items"]
theorem sc_l_one : FnScope N_l_one ["_law_cask_here", "_law_items"] (defScope s_l_one) := ⟨rfl, rfl, rfl, by decide +kernel, rfl, by decide +kernel, by decide +kernel⟩
abbrev s_l_then : Stmt := topS 59
abbrev N_l_then : List Str := ["_law_first", "_law_second", "_law_p", "_law_q", "_law_r", "_law_s", "_law_i", "_law_j", "_law_k", "_law_l"]
theorem sc_l_then : FnScope N_l_then ["_law_first", "_law_second"] (defScope s_l_then) := ⟨rfl, rfl, rfl, by decide +kernel, rfl, by decide +kernel, by decide +kernel⟩
abbrev s_l_change : Stmt := topS 60
abbrev N_l_change : List Str := ["_law_cask_here", "_law_turns_here", "_law_found", "_law_turn", "_law_step", "_law_plain"]
theorem sc_l_change : FnScope N_l_change ["_law_cask_here", "_law_turns_here"] (defScope s_l_change) := ⟨rfl, rfl, rfl, by decide +kernel, rfl, by decide +kernel, by decide +kernel⟩
abbrev s_l_common : Stmt := topS 61
abbrev N_l_common : List Str := ["_law_numbers", "_law_found", "_law_number", "_law_one_here", "_law_other"]
theorem sc_l_common : FnScope N_l_common ["_law_numbers"] (defScope s_l_common) := ⟨rfl, rfl, rfl, by decide +kernel, rfl, by decide +kernel, by decide +kernel⟩
abbrev s_l_product : Stmt := topS 62
abbrev N_l_product : List Str := ["_law_one_here", "_law_other", "_law_found", "_law_at", "_law_first", "_law_to", "_law_second"]
theorem sc_l_product : FnScope N_l_product ["_law_one_here", "_law_other"] (defScope s_l_product) := ⟨rfl, rfl, rfl, by decide +kernel, rfl, by decide +kernel, by decide +kernel⟩
abbrev s_l_discriminant : Stmt := topS 63
abbrev N_l_discriminant : List Str := ["_law_row", "_law_a", "_law_b", "_law_c", "_law_d"]
theorem sc_l_discriminant : FnScope N_l_discriminant ["_law_row"] (defScope s_l_discriminant) := ⟨rfl, rfl, rfl, by decide +kernel, rfl, by decide +kernel, by decide +kernel⟩
abbrev s_l_by_x : Stmt := topS 64
abbrev N_l_by_x : List Str := ["_law_row", "_law_size", "_law_at", "_law_entry"]
theorem sc_l_by_x : FnScope N_l_by_x ["_law_row"] (defScope s_l_by_x) := ⟨rfl, rfl, rfl, by decide +kernel, rfl, by decide +kernel, by decide +kernel⟩
abbrev s_l_by_y : Stmt := topS 65
abbrev N_l_by_y : List Str := ["_law_row", "_law_at", "_law_entry"]
theorem sc_l_by_y : FnScope N_l_by_y ["_law_row"] (defScope s_l_by_y) := ⟨rfl, rfl, rfl, by decide +kernel, rfl, by decide +kernel, by decide +kernel⟩
abbrev s_l_hessian : Stmt := topS 66
abbrev N_l_hessian : List Str := ["_law_row", "_law_mixed", "_law_plain", "_law_one_here", "_law_other"]
theorem sc_l_hessian : FnScope N_l_hessian ["_law_row"] (defScope s_l_hessian) := ⟨rfl, rfl, rfl, by decide +kernel, rfl, by decide +kernel, by decide +kernel⟩
abbrev s_l_middle : Stmt := topS 67
abbrev N_l_middle : List Str := ["_law_cask_here", "_law_size"]
theorem sc_l_middle : FnScope N_l_middle ["_law_cask_here"] (defScope s_l_middle) := ⟨rfl, rfl, rfl, by decide +kernel, rfl, by decide +kernel, by decide +kernel⟩
abbrev s_l_turning : Stmt := topS 68
abbrev N_l_turning : List Str := ["_law_a", "_law_b"]
theorem sc_l_turning : FnScope N_l_turning ["_law_a", "_law_b"] (defScope s_l_turning) := ⟨rfl, rfl, rfl, by decide +kernel, rfl, by decide +kernel, by decide +kernel⟩
abbrev s_l_turns : Stmt := topS 69
abbrev N_l_turns : List Str := ["_law_row", "_law_content"]
theorem sc_l_turns : FnScope N_l_turns ["_law_row"] (defScope s_l_turns) := ⟨rfl, rfl, rfl, by decide +kernel, rfl, by decide +kernel, by decide +kernel⟩
abbrev s_l_right : Stmt := topS 70
abbrev N_l_right : List Str := ["_law_cask_here", "_law_a", "_law_b", "_law_change_here", "_law_form", "_law_value", "_law_turn", "_law_row", "_law_place"]
theorem sc_l_right : FnScope N_l_right ["_law_cask_here"] (defScope s_l_right) := ⟨rfl, rfl, rfl, by decide +kernel, rfl, by decide +kernel, by decide +kernel⟩
abbrev s_law : Stmt := topS 71
abbrev N_law : List Str := ["_law_script", "_law_spot", "_law_cask_here", "_law_told", "_law_row"]
theorem sc_law : FnScope N_law ["_law_script"] (defScope s_law) := ⟨rfl, rfl, rfl, by decide +kernel, rfl, by decide +kernel, by decide +kernel⟩
structure Txt (K : PySem.W.Frag) (mg : Str → Option Value) (C_Form : Addr) (C_Double : Addr) : Prop where
  g_Form : mg "Form" = some (.ref C_Form)
  cl_Form : Cls K C_Form
  ty_Form : TyI K C_Form
  na_Form_coefficients : NoAttr K C_Form "_coefficients"
  g_Double : mg "Double" = some (.ref C_Double)
  cl_Double : Cls K C_Double
  ty_Double : TyI K C_Double
  na_Double_coefficients : NoAttr K C_Double "_coefficients"
  d_is_any_integer : ∃ f fd, mg "is_any_integer" = some (.ref f) ∧ Fun K "is_any_integer" "is_any_integer" s_is_any_integer f fd
  d_is_short_integer : ∃ f fd, mg "is_short_integer" = some (.ref f) ∧ Fun K "is_short_integer" "is_short_integer" s_is_short_integer f fd
  d_are_any_integers : ∃ f fd, mg "are_any_integers" = some (.ref f) ∧ Fun K "are_any_integers" "are_any_integers" s_are_any_integers f fd
  d_are_short_integers : ∃ f fd, mg "are_short_integers" = some (.ref f) ∧ Fun K "are_short_integers" "are_short_integers" s_are_short_integers f fd
  d_check_integer : ∃ f fd, mg "check_integer" = some (.ref f) ∧ Fun K "check_integer" "check_integer" s_check_integer f fd
  d_shared_divisor : ∃ f fd, mg "shared_divisor" = some (.ref f) ∧ Fun K "shared_divisor" "shared_divisor" s_shared_divisor f fd
  d_determinant_of : ∃ f fd, mg "determinant_of" = some (.ref f) ∧ Fun K "determinant_of" "determinant_of" s_determinant_of f fd
  d_is_change : ∃ f fd, mg "is_change" = some (.ref f) ∧ Fun K "is_change" "is_change" s_is_change f fd
  d_is_short_change : ∃ f fd, mg "is_short_change" = some (.ref f) ∧ Fun K "is_short_change" "is_short_change" s_is_short_change f fd
  d_check_change : ∃ f fd, mg "check_change" = some (.ref f) ∧ Fun K "check_change" "check_change" s_check_change f fd
  d_both : ∃ f fd, mg "both" = some (.ref f) ∧ Fun K "both" "both" s_both f fd
  d_double_value : ∃ f fd, mg "double_value" = some (.ref f) ∧ Fun K "double_value" "double_value" s_double_value f fd
  d_double_discriminant : ∃ f fd, mg "double_discriminant" = some (.ref f) ∧ Fun K "double_discriminant" "double_discriminant" s_double_discriminant f fd
  d_double_led : ∃ f fd, mg "double_led" = some (.ref f) ∧ Fun K "double_led" "double_led" s_double_led f fd
  d_double_of : ∃ f fd, mg "double_of" = some (.ref f) ∧ Fun K "double_of" "double_of" s_double_of f fd
  e_Double___init__ : ∃ (p f : Addr) (fd : FuncData), Mk K C_Double f ∧ Fun K "__init__" "Double.__init__" s_Double___init__ f fd
  e_Double_coefficients : ∃ (p f : Addr) (fd : FuncData), PropOf K C_Double "coefficients" p f ∧ Fun K "coefficients" "Double.coefficients" s_Double_coefficients f fd
  e_Double_discriminant : ∃ (p f : Addr) (fd : FuncData), PropOf K C_Double "discriminant" p f ∧ Fun K "discriminant" "Double.discriminant" s_Double_discriminant f fd
  e_Double_content : ∃ (p f : Addr) (fd : FuncData), PropOf K C_Double "content" p f ∧ Fun K "content" "Double.content" s_Double_content f fd
  e_Double___call__ : ∃ (p f : Addr) (fd : FuncData), StX.CallO K C_Double f ∧ Fun K "__call__" "Double.__call__" s_Double___call__ f fd
  e_Double_led : ∃ (p f : Addr) (fd : FuncData), Meth K C_Double "led" f ∧ Fun K "led" "Double.led" s_Double_led f fd
  e_Double___neg__ : ∃ (p f : Addr) (fd : FuncData), Meth K C_Double "__neg__" f ∧ Fun K "__neg__" "Double.__neg__" s_Double___neg__ f fd
  e_Double___eq__ : ∃ (p f : Addr) (fd : FuncData), EqC K C_Double f ∧ Fun K "__eq__" "Double.__eq__" s_Double___eq__ f fd
  e_Double___str__ : ∃ (p f : Addr) (fd : FuncData), Meth K C_Double "__str__" f ∧ Fun K "__str__" "Double.__str__" s_Double___str__ f fd
  d_form_value : ∃ f fd, mg "form_value" = some (.ref f) ∧ Fun K "form_value" "form_value" s_form_value f fd
  d_form_discriminant : ∃ f fd, mg "form_discriminant" = some (.ref f) ∧ Fun K "form_discriminant" "form_discriminant" s_form_discriminant f fd
  d_form_hessian : ∃ f fd, mg "form_hessian" = some (.ref f) ∧ Fun K "form_hessian" "form_hessian" s_form_hessian f fd
  d_form_led : ∃ f fd, mg "form_led" = some (.ref f) ∧ Fun K "form_led" "form_led" s_form_led f fd
  d_check_form : ∃ f fd, mg "check_form" = some (.ref f) ∧ Fun K "check_form" "check_form" s_check_form f fd
  d_form_of : ∃ f fd, mg "form_of" = some (.ref f) ∧ Fun K "form_of" "form_of" s_form_of f fd
  e_Form___init__ : ∃ (p f : Addr) (fd : FuncData), Mk K C_Form f ∧ Fun K "__init__" "Form.__init__" s_Form___init__ f fd
  e_Form_coefficients : ∃ (p f : Addr) (fd : FuncData), PropOf K C_Form "coefficients" p f ∧ Fun K "coefficients" "Form.coefficients" s_Form_coefficients f fd
  e_Form_discriminant : ∃ (p f : Addr) (fd : FuncData), PropOf K C_Form "discriminant" p f ∧ Fun K "discriminant" "Form.discriminant" s_Form_discriminant f fd
  e_Form_content : ∃ (p f : Addr) (fd : FuncData), PropOf K C_Form "content" p f ∧ Fun K "content" "Form.content" s_Form_content f fd
  e_Form_hessian : ∃ (p f : Addr) (fd : FuncData), PropOf K C_Form "hessian" p f ∧ Fun K "hessian" "Form.hessian" s_Form_hessian f fd
  e_Form___call__ : ∃ (p f : Addr) (fd : FuncData), StX.CallO K C_Form f ∧ Fun K "__call__" "Form.__call__" s_Form___call__ f fd
  e_Form_led : ∃ (p f : Addr) (fd : FuncData), Meth K C_Form "led" f ∧ Fun K "led" "Form.led" s_Form_led f fd
  e_Form_times : ∃ (p f : Addr) (fd : FuncData), Meth K C_Form "times" f ∧ Fun K "times" "Form.times" s_Form_times f fd
  e_Form___neg__ : ∃ (p f : Addr) (fd : FuncData), Meth K C_Form "__neg__" f ∧ Fun K "__neg__" "Form.__neg__" s_Form___neg__ f fd
  e_Form___eq__ : ∃ (p f : Addr) (fd : FuncData), EqC K C_Form f ∧ Fun K "__eq__" "Form.__eq__" s_Form___eq__ f fd
  d_shift : ∃ f fd, mg "shift" = some (.ref f) ∧ Fun K "shift" "shift" s_shift f fd
  d_double_step : ∃ f fd, mg "double_step" = some (.ref f) ∧ Fun K "double_step" "double_step" s_double_step f fd
  d_double_way : ∃ f fd, mg "double_way" = some (.ref f) ∧ Fun K "double_way" "double_way" s_double_way f fd
  d_turning : ∃ f fd, mg "turning" = some (.ref f) ∧ Fun K "turning" "turning" s_turning f fd
  d_is_whole_square : ∃ f fd, mg "is_whole_square" = some (.ref f) ∧ Fun K "is_whole_square" "is_whole_square" s_is_whole_square f fd
  d_turning_form : ∃ f fd, mg "turning_form" = some (.ref f) ∧ Fun K "turning_form" "turning_form" s_turning_form f fd
  d_is_turning : ∃ f fd, mg "is_turning" = some (.ref f) ∧ Fun K "is_turning" "is_turning" s_is_turning f fd
  d_l_cask : ∃ f fd, mg "_law_cask" = some (.ref f) ∧ Fun K "_law_cask" "_law_cask" s_l_cask f fd
  d_l_tap : ∃ f fd, mg "_law_tap" = some (.ref f) ∧ Fun K "_law_tap" "_law_tap" s_l_tap f fd
  d_l_one : ∃ f fd, mg "_law_one" = some (.ref f) ∧ Fun K "_law_one" "_law_one" s_l_one f fd
  d_l_then : ∃ f fd, mg "_law_then" = some (.ref f) ∧ Fun K "_law_then" "_law_then" s_l_then f fd
  d_l_change : ∃ f fd, mg "_law_change" = some (.ref f) ∧ Fun K "_law_change" "_law_change" s_l_change f fd
  d_l_common : ∃ f fd, mg "_law_common" = some (.ref f) ∧ Fun K "_law_common" "_law_common" s_l_common f fd
  d_l_product : ∃ f fd, mg "_law_product" = some (.ref f) ∧ Fun K "_law_product" "_law_product" s_l_product f fd
  d_l_discriminant : ∃ f fd, mg "_law_discriminant" = some (.ref f) ∧ Fun K "_law_discriminant" "_law_discriminant" s_l_discriminant f fd
  d_l_by_x : ∃ f fd, mg "_law_by_x" = some (.ref f) ∧ Fun K "_law_by_x" "_law_by_x" s_l_by_x f fd
  d_l_by_y : ∃ f fd, mg "_law_by_y" = some (.ref f) ∧ Fun K "_law_by_y" "_law_by_y" s_l_by_y f fd
  d_l_hessian : ∃ f fd, mg "_law_hessian" = some (.ref f) ∧ Fun K "_law_hessian" "_law_hessian" s_l_hessian f fd
  d_l_middle : ∃ f fd, mg "_law_middle" = some (.ref f) ∧ Fun K "_law_middle" "_law_middle" s_l_middle f fd
  d_l_turning : ∃ f fd, mg "_law_turning" = some (.ref f) ∧ Fun K "_law_turning" "_law_turning" s_l_turning f fd
  d_l_turns : ∃ f fd, mg "_law_turns" = some (.ref f) ∧ Fun K "_law_turns" "_law_turns" s_l_turns f fd
  d_l_right : ∃ f fd, mg "_law_right" = some (.ref f) ∧ Fun K "_law_right" "_law_right" s_l_right f fd
  d_law : ∃ f fd, mg "law" = some (.ref f) ∧ Fun K "law" "law" s_law f fd
  b_abs : mg "abs" = none
  b_all : mg "all" = none
  b_bool : mg "bool" = none
  b_enumerate : mg "enumerate" = none
  b_int : mg "int" = none
  b_isinstance : mg "isinstance" = none
  b_len : mg "len" = none
  b_max : mg "max" = none
  b_min : mg "min" = none
  b_range : mg "range" = none
  b_str : mg "str" = none
  b_sum : mg "sum" = none
  b_tuple : mg "tuple" = none
  b_zip : mg "zip" = none
  x_LIMIT : ∃ t, mg "LIMIT" = some (.int (1000000000000000000000000000000000000000000000000000000000000) t)
  m_gcd : mg "gcd" = some (.builtin "math.gcd")
  m_isqrt : mg "isqrt" = some (.builtin "math.isqrt")
  k_IDLE : ∃ A, mg "IDLE" = some (.ref A) ∧ ∀ H, Tq K H A 1 0 0 1
  k_EXCHANGE : ∃ A, mg "EXCHANGE" = some (.ref A) ∧ ∀ H, Tq K H A 0 1 1 0
  k_SECOND_BACK : ∃ A, mg "SECOND_BACK" = some (.ref A) ∧ ∀ H, Tq K H A 1 0 0 (-1)
def Short (i : Int) : Prop := -1000000000000000000000000000000000000000000000000000000000000 < i ∧ i < 1000000000000000000000000000000000000000000000000000000000000
theorem Short.b {i : Int} (h : Short i) : B 200 i := ⟨by have := h.1; have := h.2; omega, by decide⟩
def Ti (H : Hp) (a : Addr) (ns : List Int) : Prop := H a = some (.tup (ns.map V.int))
def T4 (H : Hp) (a : Addr) (p q r s : Int) : Prop := ∃ t1 t2, H a = some (.tup [.ref t1, .ref t2]) ∧ H t1 = some (.tup [.int p, .int q]) ∧ H t2 = some (.tup [.int r, .int s])
def FormAt (C : Addr) (H : Hp) (x : Addr) (ns : List Int) : Prop := ∃ dx t, H x = some (.ins C dx [(("_coefficients" : Str), .ref t)]) ∧ Ti H t ns
def ChOk (p q r s : Int) : Prop := Short p ∧ Short q ∧ Short r ∧ Short s ∧ (p * s - q * r = 1 ∨ p * s - q * r = -1)
theorem Ti.ex {H H' : Hp} {a : Addr} {ns : List Int} (h : Ti H a ns) (e : ∀ b xs, H b = some (.tup xs) → H' b = some (.tup xs)) : Ti H' a ns := e _ _ h
theorem T4.ex {H H' : Hp} {a : Addr} {p q r s : Int} (h : T4 H a p q r s) (e : ∀ b xs, H b = some (.tup xs) → H' b = some (.tup xs)) : T4 H' a p q r s := by
  obtain ⟨t1, t2, h0, h1, h2⟩ := h
  exact ⟨t1, t2, e _ _ h0, e _ _ h1, e _ _ h2⟩
theorem get_int {ns : List Int} {i : Nat} {x : V} (hx : (ns.map V.int)[i]? = some x) : ∃ n, ns[i]? = some n ∧ x = V.int n := by
  rw [List.getElem?_map] at hx
  cases e : ns[i]? with
  | none => rw [e] at hx; cases hx
  | some z => rw [e] at hx; exact ⟨z, rfl, (Option.some.inj hx).symm⟩
def gcdL (ns : List Int) : Nat := ns.foldl (fun g n => Nat.gcd g n.natAbs) 0
theorem gcdL_take {ns : List Int} {i : Nat} {n : Int} (h : ns[i]? = some n) : gcdL (ns.take (i + 1)) = Nat.gcd (gcdL (ns.take i)) n.natAbs := by
  unfold gcdL
  rw [List.take_add_one, h, List.foldl_append]
  rfl
def fled (a b c d p q r s : Int) : List Int := [(p * s - q * r) * fv a b c d p q, (p * s - q * r) * fl2 a b c d p q r s, (p * s - q * r) * fl3 a b c d p q r s, (p * s - q * r) * fv a b c d r s]
theorem un4 {K : PySem.W.Frag} {i j k l : Nat} {σ : L2.St} {H : Hp} {a : Addr} {p q r s : Int} {Q : L2.St → Hp → Prop} (h : T4 H a p q r s)
    (z : Q ((((σ.set i (some (.int p))).set j (some (.int q))).set k (some (.int r))).set l (some (.int s))) H) :
    gTup K 2 (gCons (gTup K 2 (gCons (gName i) (gCons (gName j) gNil))) (gCons (gTup K 2 (gCons (gName k) (gCons (gName l) gNil))) gNil)) (.ref a) σ H Q := by
  obtain ⟨t1, t2, h0, h1, h2⟩ := h
  refine ⟨a, _, rfl, SqT.of h0, rfl, _, _, rfl, ?_⟩
  refine ⟨t1, _, rfl, SqT.of h1, rfl, _, _, rfl, ?_⟩
  refine ⟨_, _, rfl, ⟨rfl, ?_⟩⟩
  refine ⟨_, _, rfl, ?_⟩
  refine ⟨t2, _, rfl, SqT.of h2, rfl, _, _, rfl, ?_⟩
  exact ⟨_, _, rfl, ⟨rfl, ⟨rfl, z⟩⟩⟩
theorem unI4 {K : PySem.W.Frag} {i j k l : Nat} {σ : L2.St} {H : Hp} {t : Addr} {a b c d : Int} {Q : L2.St → Hp → Prop} (h : Ti H t [a, b, c, d])
    (z : Q ((((σ.set i (some (.int a))).set j (some (.int b))).set k (some (.int c))).set l (some (.int d))) H) :
    gTup K 4 (gCons (gName i) (gCons (gName j) (gCons (gName k) (gCons (gName l) gNil)))) (.ref t) σ H Q :=
  ⟨t, _, rfl, SqT.of h, rfl, _, _, rfl, _, _, rfl, _, _, rfl, _, _, rfl, rfl, z⟩
theorem unI3 {K : PySem.W.Frag} {i j k : Nat} {σ : L2.St} {H : Hp} {t : Addr} {a b c : Int} {Q : L2.St → Hp → Prop} (h : Ti H t [a, b, c])
    (z : Q (((σ.set i (some (.int a))).set j (some (.int b))).set k (some (.int c))) H) :
    gTup K 3 (gCons (gName i) (gCons (gName j) (gCons (gName k) gNil))) (.ref t) σ H Q :=
  ⟨t, _, rfl, SqT.of h, rfl, _, _, rfl, _, _, rfl, _, _, rfl, rfl, z⟩
theorem t4_new {H : Hp} {t1 t2 x : Addr} {p q r s : Int} (n1 : H t1 = none) (n2 : upd H t1 (.tup [.int p, .int q]) t2 = none) (n3 : upd (upd H t1 (.tup [.int p, .int q])) t2 (.tup [.int r, .int s]) x = none) :
    Ex0 H (upd (upd (upd H t1 (.tup [.int p, .int q])) t2 (.tup [.int r, .int s])) x (.tup [.ref t1, .ref t2])) ∧ T4 (upd (upd (upd H t1 (.tup [.int p, .int q])) t2 (.tup [.int r, .int s])) x (.tup [.ref t1, .ref t2])) x p q r s :=
  ⟨((Ex0.new n1).trans (Ex0.new n2)).trans (Ex0.new n3), t1, t2, upd_same, Ex0.ap (Ex0.new n3) (Ex0.ap (Ex0.new n2) upd_same), Ex0.ap (Ex0.new n3) upd_same⟩
theorem Ex0.t4 {H H' : Hp} {a : Addr} {p q r s : Int} (e : Ex0 H H') (h : T4 H a p q r s) : T4 H' a p q r s := h.ex fun _ _ z => Ex0.ap e z
theorem Ex0.ti {H H' : Hp} {a : Addr} {ns : List Int} (e : Ex0 H H') (h : Ti H a ns) : Ti H' a ns := Ex0.ap e h
theorem Ex0.fo {C : Addr} {H H' : Hp} {x : Addr} {ns : List Int} (e : Ex0 H H') (h : FormAt C H x ns) : FormAt C H' x ns := by
  obtain ⟨dx, t, h1, h2⟩ := h
  exact ⟨dx, t, Ex0.ap e h1, Ex0.ap e h2⟩
theorem T4.q {K : PySem.W.Frag} {H : Hp} {a : Addr} {p q r s : Int} (h : T4 H a p q r s) : Tq K H a p q r s := by
  obtain ⟨t1, t2, h0, h1, h2⟩ := h
  exact ⟨t1, t2, SqT.of h0, SqT.of h1, SqT.of h2⟩
theorem Ex0.q {K : PySem.W.Frag} {H H' : Hp} {a : Addr} {p q r s : Int} (e : Ex0 H H') (h : Tq K H a p q r s) : Tq K H' a p q r s := by
  obtain ⟨t1, t2, h0, h1, h2⟩ := h
  exact ⟨t1, t2, e.sqT (fun z => z) h0, e.sqT (fun z => z) h1, e.sqT (fun z => z) h2⟩
theorem unq {K : PySem.W.Frag} {i j k l : Nat} {σ : L2.St} {H : Hp} {a : Addr} {p q r s : Int} {Q : L2.St → Hp → Prop} (h : Tq K H a p q r s)
    (z : Q ((((σ.set i (some (.int p))).set j (some (.int q))).set k (some (.int r))).set l (some (.int s))) H) :
    gTup K 2 (gCons (gTup K 2 (gCons (gName i) (gCons (gName j) gNil))) (gCons (gTup K 2 (gCons (gName k) (gCons (gName l) gNil))) gNil)) (.ref a) σ H Q := by
  obtain ⟨t1, t2, h0, h1, h2⟩ := h
  refine ⟨a, _, rfl, h0, rfl, _, _, rfl, ?_⟩
  refine ⟨t1, _, rfl, h1, rfl, _, _, rfl, ?_⟩
  refine ⟨_, _, rfl, ⟨rfl, ?_⟩⟩
  refine ⟨_, _, rfl, ?_⟩
  refine ⟨t2, _, rfl, h2, rfl, _, _, rfl, ?_⟩
  exact ⟨_, _, rfl, ⟨rfl, ⟨rfl, z⟩⟩⟩
section
def sp_is_any_integer (_ : PySem.W.Frag) (C C_D : Addr) : Sp := fun vs H Q _ => ∃ i : Int, vs = [.int i] ∧ Q (.bl true) H
def sp_is_short_integer (_ : PySem.W.Frag) (C C_D : Addr) : Sp := fun vs H Q _ => ∃ i : Int, vs = [.int i] ∧ Short i ∧ Q (.bl true) H
def sp_are_any_integers (_ : PySem.W.Frag) (C C_D : Addr) : Sp := fun vs H Q _ => ∃ (a : Addr) (ns : List Int), vs = [.ref a, .int (ns.length : Int)] ∧ Ti H a ns ∧ ns.length ≤ 1000 ∧ ∀ H', Ex0 H H' → Q (.bl true) H'
def sp_are_short_integers (_ : PySem.W.Frag) (C C_D : Addr) : Sp := fun vs H Q _ => ∃ (a : Addr) (ns : List Int), vs = [.ref a, .int (ns.length : Int)] ∧ Ti H a ns ∧ ns.length ≤ 1000 ∧ (∀ n ∈ ns, Short n) ∧ ∀ H', Ex0 H H' → Q (.bl true) H'
def sp_check_integer (_ : PySem.W.Frag) (C C_D : Addr) : Sp := fun vs H Q _ => ∃ i : Int, vs = [.int i] ∧ Short i ∧ Q .non H
def sp_determinant_of (_ : PySem.W.Frag) (C C_D : Addr) : Sp := fun vs H Q _ => ∃ (a : Addr) (p q r s : Int), vs = [.ref a] ∧ T4 H a p q r s ∧ B 200 p ∧ B 200 q ∧ B 200 r ∧ B 200 s ∧ Q (.int (p * s - q * r)) H
def sp_is_change (_ : PySem.W.Frag) (C C_D : Addr) : Sp := fun vs H Q _ => ∃ (a : Addr) (p q r s : Int), vs = [.ref a] ∧ T4 H a p q r s ∧ ChOk p q r s ∧ ∀ H', Ex0 H H' → Q (.bl true) H'
def sp_is_short_change (_ : PySem.W.Frag) (C C_D : Addr) : Sp := fun vs H Q _ => ∃ (a : Addr) (p q r s : Int), vs = [.ref a] ∧ T4 H a p q r s ∧ ChOk p q r s ∧ ∀ H', Ex0 H H' → Q (.bl true) H'
def sp_check_change (_ : PySem.W.Frag) (C C_D : Addr) : Sp := fun vs H Q _ => ∃ (a : Addr) (p q r s : Int), vs = [.ref a] ∧ T4 H a p q r s ∧ ChOk p q r s ∧ ∀ H', Ex0 H H' → Q .non H'
def sp_double_value (_ : PySem.W.Frag) (C C_D : Addr) : Sp := fun vs H Q _ => ∃ (t : Addr) (a b c x y : Int), vs = [.ref t, .int x, .int y] ∧ Ti H t [a, b, c] ∧ B 1200 a ∧ B 1200 b ∧ B 1200 c ∧ B 800 x ∧ B 800 y ∧ Q (.int (dv a b c x y)) H
def sp_double_discriminant (_ : PySem.W.Frag) (C C_D : Addr) : Sp := fun vs H Q _ => ∃ (t : Addr) (a b c : Int), vs = [.ref t] ∧ Ti H t [a, b, c] ∧ B 1000 a ∧ B 1000 b ∧ B 1000 c ∧ Q (.int (ddisc a b c)) H
def sp_double_led (K : PySem.W.Frag) (C C_D : Addr) : Sp := fun vs H Q _ => ∃ (t u : Addr) (a b c p q r s : Int), vs = [.ref t, .ref u] ∧ Ti H t [a, b, c] ∧ Tq K H u p q r s ∧ B 1200 a ∧ B 1200 b ∧ B 1200 c ∧ B 800 p ∧ B 800 q ∧ B 800 r ∧ B 800 s ∧ ∀ x H', Ex0 H H' → Ti H' x [dv a b c p q, dl a b c p q r s, dv a b c r s] → Q (.ref x) H'
def sp_double_of (_ : PySem.W.Frag) (C C_D : Addr) : Sp := fun vs H Q _ => ∃ (t : Addr) (ns : List Int), vs = [.ref t] ∧ Ti H t ns ∧ ∀ x H', Ex0 H H' → FormAt C_D H' x ns → Q (.ref x) H'
def sp_form_hessian (_ : PySem.W.Frag) (C C_D : Addr) : Sp := fun vs H Q _ => ∃ (t : Addr) (a b c d : Int), vs = [.ref t] ∧ Ti H t [a, b, c, d] ∧ B 1000 a ∧ B 1000 b ∧ B 1000 c ∧ B 1000 d ∧ ∀ x H', Ex0 H H' → Ti H' x [h0 a b c d, h1 a b c d, h2 a b c d] → Q (.ref x) H'
def sp_form_covariant (_ : PySem.W.Frag) (C C_D : Addr) : Sp := fun vs H Q _ => ∃ (t : Addr) (a b c d : Int), vs = [.ref t] ∧ Ti H t [a, b, c, d] ∧ B 1000 a ∧ B 1000 b ∧ B 1000 c ∧ B 1000 d ∧ ∀ x H', Ex0 H H' → Ti H' x [g0 a b c d, g1 a b c d, g2 a b c d, g3 a b c d] → Q (.ref x) H'
def sp_Double___init__ (_ : PySem.W.Frag) (C C_D : Addr) : Sp := fun vs H Q _ => ∃ (x dx t : Addr) (ns : List Int), vs = [.ref x, .ref t] ∧ H x = some (.ins C_D dx []) ∧ Ti H t ns ∧ ns.length = 3 ∧ (∀ n ∈ ns, Short n) ∧ ∀ H', (∀ b o, b ≠ x → H b = some o → H' b = some o) → H' x = some (.ins C_D dx [(("_coefficients" : Str), .ref t)]) → Q .non H'
def sp_Double_coefficients (_ : PySem.W.Frag) (C C_D : Addr) : Sp := fun vs H Q _ => ∃ (x : Addr) (ns : List Int), vs = [.ref x] ∧ FormAt C_D H x ns ∧ ∀ t, Ti H t ns → Q (.ref t) H
def sp_Double_discriminant (_ : PySem.W.Frag) (C C_D : Addr) : Sp := fun vs H Q _ => ∃ (x : Addr) (a b c : Int), vs = [.ref x] ∧ FormAt C_D H x [a, b, c] ∧ B 1000 a ∧ B 1000 b ∧ B 1000 c ∧ Q (.int (ddisc a b c)) H
def sp_Double___call__ (_ : PySem.W.Frag) (C C_D : Addr) : Sp := fun vs H Q _ => ∃ (z : Addr) (a b c x y : Int), vs = [.ref z, .int x, .int y] ∧ FormAt C_D H z [a, b, c] ∧ B 1000 a ∧ B 1000 b ∧ B 1000 c ∧ Short x ∧ Short y ∧ Q (.int (dv a b c x y)) H
def sp_Double_led (_ : PySem.W.Frag) (C C_D : Addr) : Sp := fun vs H Q _ => ∃ (z u : Addr) (a b c p q r s : Int), vs = [.ref z, .ref u] ∧ FormAt C_D H z [a, b, c] ∧ T4 H u p q r s ∧ B 1000 a ∧ B 1000 b ∧ B 1000 c ∧ ChOk p q r s ∧ ∀ x H', Ex0 H H' → FormAt C_D H' x [dv a b c p q, dl a b c p q r s, dv a b c r s] → Q (.ref x) H'
def sp_Form___eq__ (_ : PySem.W.Frag) (C C_D : Addr) : Sp := fun vs H Q _ => ∃ (x y : Addr) (ns ms : List Int), vs = [.ref x, .ref y] ∧ FormAt C H x ns ∧ FormAt C H y ms ∧ Q (.bl (decide (ns = ms))) H
def sp_check_form (_ : PySem.W.Frag) (C C_D : Addr) : Sp := fun vs H Q _ => ∃ (x : Addr) (ns : List Int), vs = [.ref x] ∧ FormAt C H x ns ∧ Q .non H
def sp_Form_hessian (_ : PySem.W.Frag) (C C_D : Addr) : Sp := fun vs H Q _ => ∃ (z : Addr) (a b c d : Int), vs = [.ref z] ∧ FormAt C H z [a, b, c, d] ∧ B 1000 a ∧ B 1000 b ∧ B 1000 c ∧ B 1000 d ∧ ∀ x H', Ex0 H H' → FormAt C_D H' x [h0 a b c d, h1 a b c d, h2 a b c d] → Q (.ref x) H'
def sp_Form_covariant (_ : PySem.W.Frag) (C C_D : Addr) : Sp := fun vs H Q _ => ∃ (z : Addr) (a b c d : Int), vs = [.ref z] ∧ FormAt C H z [a, b, c, d] ∧ B 1000 a ∧ B 1000 b ∧ B 1000 c ∧ B 1000 d ∧ ∀ x H', Ex0 H H' → FormAt C H' x [g0 a b c d, g1 a b c d, g2 a b c d, g3 a b c d] → Q (.ref x) H'
def sp_form_value (_ : PySem.W.Frag) (C C_D : Addr) : Sp := fun vs H Q _ => ∃ (t : Addr) (a b c d x y : Int), vs = [.ref t, .int x, .int y] ∧ Ti H t [a, b, c, d] ∧ B 1000 a ∧ B 1000 b ∧ B 1000 c ∧ B 1000 d ∧ B 200 x ∧ B 200 y ∧ Q (.int (fv a b c d x y)) H
def sp_form_discriminant (_ : PySem.W.Frag) (C C_D : Addr) : Sp := fun vs H Q _ => ∃ (t : Addr) (a b c d : Int), vs = [.ref t] ∧ Ti H t [a, b, c, d] ∧ B 1000 a ∧ B 1000 b ∧ B 1000 c ∧ B 1000 d ∧ Q (.int (fdisc a b c d)) H
def sp_form_led (_ : PySem.W.Frag) (C C_D : Addr) : Sp := fun vs H Q _ => ∃ (t u : Addr) (a b c d p q r s : Int), vs = [.ref t, .ref u] ∧ Ti H t [a, b, c, d] ∧ T4 H u p q r s ∧ B 1000 a ∧ B 1000 b ∧ B 1000 c ∧ B 1000 d ∧ B 200 p ∧ B 200 q ∧ B 200 r ∧ B 200 s ∧ ∀ x H', Ex0 H H' → Ti H' x (fled a b c d p q r s) → Q (.ref x) H'
def sp_form_of (_ : PySem.W.Frag) (C C_D : Addr) : Sp := fun vs H Q _ => ∃ (t : Addr) (ns : List Int), vs = [.ref t] ∧ Ti H t ns ∧ ∀ x H', Ex0 H H' → FormAt C H' x ns → Q (.ref x) H'
def sp_Form___init__ (_ : PySem.W.Frag) (C C_D : Addr) : Sp := fun vs H Q _ => ∃ (x dx t : Addr) (ns : List Int), vs = [.ref x, .ref t] ∧ H x = some (.ins C dx []) ∧ Ti H t ns ∧ ns.length = 4 ∧ (∀ n ∈ ns, Short n) ∧ ∀ H', (∀ b o, b ≠ x → H b = some o → H' b = some o) → H' x = some (.ins C dx [(("_coefficients" : Str), .ref t)]) → Q .non H'
def sp_Form_coefficients (_ : PySem.W.Frag) (C C_D : Addr) : Sp := fun vs H Q _ => ∃ (x : Addr) (ns : List Int), vs = [.ref x] ∧ FormAt C H x ns ∧ ∀ t, Ti H t ns → Q (.ref t) H
def sp_Form_discriminant (_ : PySem.W.Frag) (C C_D : Addr) : Sp := fun vs H Q _ => ∃ (x : Addr) (a b c d : Int), vs = [.ref x] ∧ FormAt C H x [a, b, c, d] ∧ B 1000 a ∧ B 1000 b ∧ B 1000 c ∧ B 1000 d ∧ Q (.int (fdisc a b c d)) H
def sp_Form___call__ (_ : PySem.W.Frag) (C C_D : Addr) : Sp := fun vs H Q _ => ∃ (z : Addr) (a b c d x y : Int), vs = [.ref z, .int x, .int y] ∧ FormAt C H z [a, b, c, d] ∧ B 1000 a ∧ B 1000 b ∧ B 1000 c ∧ B 1000 d ∧ Short x ∧ Short y ∧ Q (.int (fv a b c d x y)) H
def sp_Form_led (_ : PySem.W.Frag) (C C_D : Addr) : Sp := fun vs H Q _ => ∃ (z u : Addr) (a b c d p q r s : Int), vs = [.ref z, .ref u] ∧ FormAt C H z [a, b, c, d] ∧ T4 H u p q r s ∧ B 1000 a ∧ B 1000 b ∧ B 1000 c ∧ B 1000 d ∧ ChOk p q r s ∧ ∀ x H', Ex0 H H' → FormAt C H' x (fled a b c d p q r s) → Q (.ref x) H'
end
section
variable {P : Program} {w : World} {K : PySem.W.Frag} {mg : Str → Option Value} {base : Heap} {C_Form C_Double : Addr}
theorem ok_is_any_integer (T : Txt K mg C_Form C_Double) : Def P w K mg base 1 "is_any_integer" ["value"] (sp_is_any_integer K C_Form C_Double) := by
  obtain ⟨f_, fd_, g_, F_⟩ := T.d_is_any_integer
  refine ⟨f_, fd_, g_, F_.kp, F_.binds (ps := ["value"]) (fun _ _ _ _ _ _ us hl => match us, hl with | [_], _ => rfl), ?_⟩
  refine F_.ok sc_is_any_integer (fun vs H Q E h => ?_) (fun cdv A outer s H vs Q E hr h => ?_)
  · first | (obtain ⟨rfl, _⟩ := h; rfl) | (obtain ⟨_, rfl, _⟩ := h; rfl) | (obtain ⟨_, _, rfl, _⟩ := h; rfl) | (obtain ⟨_, _, _, rfl, _⟩ := h; rfl) | (obtain ⟨_, _, _, _, rfl, _⟩ := h; rfl) | (obtain ⟨_, _, _, _, _, rfl, _⟩ := h; rfl) | (obtain ⟨_, _, _, _, _, _, rfl, _⟩ := h; rfl) | (obtain ⟨_, _, _, _, _, _, _, rfl, _⟩ := h; rfl) | (obtain ⟨_, _, _, _, _, _, _, _, rfl, _⟩ := h; rfl) | (obtain ⟨_, _, _, _, _, _, _, _, _, rfl, _⟩ := h; rfl) | (obtain ⟨_, _, _, _, _, _, _, _, _, _, rfl, _⟩ := h; rfl) | (obtain ⟨_, _, _, _, _, _, _, _, _, _, _, rfl, _⟩ := h; rfl) | (obtain ⟨_, _, _, _, _, _, _, _, _, _, _, _, rfl, _⟩ := h; rfl) | (obtain ⟨_, _, _, _, _, _, _, _, _, _, _, _, _, rfl, _⟩ := h; rfl) | (obtain ⟨_, _, _, _, _, _, _, _, _, _, _, _, _, _, rfl, _⟩ := h; rfl) | (obtain ⟨_, _, _, _, _, _, _, _, _, _, _, _, _, _, _, rfl, _⟩ := h; rfl) | (obtain ⟨_, _, _, _, _, _, _, _, _, _, _, _, _, _, _, _, rfl, _⟩ := h; rfl) | (obtain ⟨_, _, _, _, _, _, _, _, _, _, _, _, _, _, _, _, _, rfl, _⟩ := h; rfl) | (obtain ⟨_, _, _, _, _, _, _, _, _, _, _, _, _, _, _, _, _, _, rfl, _⟩ := h; rfl) | (obtain ⟨_, _, _, _, _, _, _, _, _, _, _, _, _, _, _, _, _, _, _, rfl, _⟩ := h; rfl) | (obtain ⟨_, _, _, _, _, _, _, _, _, _, _, _, _, _, _, _, _, _, _, _, rfl, _⟩ := h; rfl) | (obtain ⟨_, _, _, _, _, _, _, _, _, _, _, _, _, _, _, _, _, _, _, _, _, rfl, _⟩ := h; rfl) | (obtain ⟨_, _, _, _, _, _, _, _, _, _, _, _, _, _, _, _, _, _, _, _, _, _, rfl, _⟩ := h; rfl) | (obtain ⟨_, _, _, _, _, _, _, _, _, _, _, _, _, _, _, _, _, _, _, _, _, _, _, rfl, _⟩ := h; rfl)
  · obtain ⟨i, rfl, q⟩ := h
    refine ⟨_, (pss_one (ps_ret (pe_and (pe_callB call_isi (by rfl) T.b_isinstance (by decide +kernel) (pa_cons (pv 0) (pa_cons (pe_bltn (v := .ty "int") (by rfl) T.b_int (by decide +kernel) rfl) pa_nil))) (pe_one (pe_not (pe_callB call_isi (by rfl) T.b_isinstance (by decide +kernel) (pa_cons (pv 0) (pa_cons (pe_bltn (v := .ty "bool") (by rfl) T.b_bool (by decide +kernel) rfl) pa_nil)))))))), ?_⟩
    refine ⟨_, rfl, _, _, _, _, true, rfl, .ty _, .base (.int i), kit_ty (by decide +kernel), _, rfl, iteT ?_⟩
    exact ⟨_, rfl, _, _, _, _, false, rfl, .ty _, .base (.int i), kit_ty (by decide +kernel), _, rfl, q⟩
theorem ok_is_short_integer (T : Txt K mg C_Form C_Double) : Def P w K mg base 2 "is_short_integer" ["value"] (sp_is_short_integer K C_Form C_Double) := by
  obtain ⟨f_, fd_, g_, F_⟩ := T.d_is_short_integer
  obtain ⟨f_is_any_integer, fd_is_any_integer, g_is_any_integer, k_is_any_integer, b_is_any_integer, G_is_any_integer⟩ := (ok_is_any_integer (P := P) (w := w) (base := base) T)
  refine ⟨f_, fd_, g_, F_.kp, F_.binds (ps := ["value"]) (fun _ _ _ _ _ _ us hl => match us, hl with | [_], _ => rfl), ?_⟩
  refine F_.ok sc_is_short_integer (fun vs H Q E h => ?_) (fun cdv A outer s H vs Q E hr h => ?_)
  · first | (obtain ⟨rfl, _⟩ := h; rfl) | (obtain ⟨_, rfl, _⟩ := h; rfl) | (obtain ⟨_, _, rfl, _⟩ := h; rfl) | (obtain ⟨_, _, _, rfl, _⟩ := h; rfl) | (obtain ⟨_, _, _, _, rfl, _⟩ := h; rfl) | (obtain ⟨_, _, _, _, _, rfl, _⟩ := h; rfl) | (obtain ⟨_, _, _, _, _, _, rfl, _⟩ := h; rfl) | (obtain ⟨_, _, _, _, _, _, _, rfl, _⟩ := h; rfl) | (obtain ⟨_, _, _, _, _, _, _, _, rfl, _⟩ := h; rfl) | (obtain ⟨_, _, _, _, _, _, _, _, _, rfl, _⟩ := h; rfl) | (obtain ⟨_, _, _, _, _, _, _, _, _, _, rfl, _⟩ := h; rfl) | (obtain ⟨_, _, _, _, _, _, _, _, _, _, _, rfl, _⟩ := h; rfl) | (obtain ⟨_, _, _, _, _, _, _, _, _, _, _, _, rfl, _⟩ := h; rfl) | (obtain ⟨_, _, _, _, _, _, _, _, _, _, _, _, _, rfl, _⟩ := h; rfl) | (obtain ⟨_, _, _, _, _, _, _, _, _, _, _, _, _, _, rfl, _⟩ := h; rfl) | (obtain ⟨_, _, _, _, _, _, _, _, _, _, _, _, _, _, _, rfl, _⟩ := h; rfl) | (obtain ⟨_, _, _, _, _, _, _, _, _, _, _, _, _, _, _, _, rfl, _⟩ := h; rfl) | (obtain ⟨_, _, _, _, _, _, _, _, _, _, _, _, _, _, _, _, _, rfl, _⟩ := h; rfl) | (obtain ⟨_, _, _, _, _, _, _, _, _, _, _, _, _, _, _, _, _, _, rfl, _⟩ := h; rfl) | (obtain ⟨_, _, _, _, _, _, _, _, _, _, _, _, _, _, _, _, _, _, _, rfl, _⟩ := h; rfl) | (obtain ⟨_, _, _, _, _, _, _, _, _, _, _, _, _, _, _, _, _, _, _, _, rfl, _⟩ := h; rfl) | (obtain ⟨_, _, _, _, _, _, _, _, _, _, _, _, _, _, _, _, _, _, _, _, _, rfl, _⟩ := h; rfl) | (obtain ⟨_, _, _, _, _, _, _, _, _, _, _, _, _, _, _, _, _, _, _, _, _, _, rfl, _⟩ := h; rfl) | (obtain ⟨_, _, _, _, _, _, _, _, _, _, _, _, _, _, _, _, _, _, _, _, _, _, _, rfl, _⟩ := h; rfl)
  · obtain ⟨i, rfl, hs, q⟩ := h
    obtain ⟨t_LIMIT, h_LIMIT⟩ := T.x_LIMIT
    refine ⟨_, (pss_one (ps_ret (pe_and (pe_call G_is_any_integer (hr.mono (by decide)) (by rfl) g_is_any_integer k_is_any_integer b_is_any_integer .nil pass0 (pa_cons (pv 0) pa_nil)) (pe_one (pe_chain op_lt op_lt (pe_un un_neg (pe_glob (v := .int 1000000000000000000000000000000000000000000000000000000000000) (by rfl) h_LIMIT ⟨_, rfl⟩)) (pv 0) (pe_glob (v := .int 1000000000000000000000000000000000000000000000000000000000000) (by rfl) h_LIMIT ⟨_, rfl⟩)))))), ?_⟩
    refine ⟨_, rfl, i, rfl, _, rfl, iteT ?_⟩
    refine ⟨_, rfl, _, rfl, _, _, rfl, rfl, _, rfl, dT hs.1 ⟨_, _, rfl, rfl, ?_⟩⟩
    show Q (.bl (decide (i < 1000000000000000000000000000000000000000000000000000000000000))) H
    rw [decide_eq_true hs.2]
    exact q
theorem ok_check_integer (T : Txt K mg C_Form C_Double) : Def P w K mg base 3 "check_integer" ["value"] (sp_check_integer K C_Form C_Double) := by
  obtain ⟨f_, fd_, g_, F_⟩ := T.d_check_integer
  obtain ⟨f_is_short_integer, fd_is_short_integer, g_is_short_integer, k_is_short_integer, b_is_short_integer, G_is_short_integer⟩ := (ok_is_short_integer (P := P) (w := w) (base := base) T)
  refine ⟨f_, fd_, g_, F_.kp, F_.binds (ps := ["value"]) (fun _ _ _ _ _ _ us hl => match us, hl with | [_], _ => rfl), ?_⟩
  refine F_.ok sc_check_integer (fun vs H Q E h => ?_) (fun cdv A outer s H vs Q E hr h => ?_)
  · first | (obtain ⟨rfl, _⟩ := h; rfl) | (obtain ⟨_, rfl, _⟩ := h; rfl) | (obtain ⟨_, _, rfl, _⟩ := h; rfl) | (obtain ⟨_, _, _, rfl, _⟩ := h; rfl) | (obtain ⟨_, _, _, _, rfl, _⟩ := h; rfl) | (obtain ⟨_, _, _, _, _, rfl, _⟩ := h; rfl) | (obtain ⟨_, _, _, _, _, _, rfl, _⟩ := h; rfl) | (obtain ⟨_, _, _, _, _, _, _, rfl, _⟩ := h; rfl) | (obtain ⟨_, _, _, _, _, _, _, _, rfl, _⟩ := h; rfl) | (obtain ⟨_, _, _, _, _, _, _, _, _, rfl, _⟩ := h; rfl) | (obtain ⟨_, _, _, _, _, _, _, _, _, _, rfl, _⟩ := h; rfl) | (obtain ⟨_, _, _, _, _, _, _, _, _, _, _, rfl, _⟩ := h; rfl) | (obtain ⟨_, _, _, _, _, _, _, _, _, _, _, _, rfl, _⟩ := h; rfl) | (obtain ⟨_, _, _, _, _, _, _, _, _, _, _, _, _, rfl, _⟩ := h; rfl) | (obtain ⟨_, _, _, _, _, _, _, _, _, _, _, _, _, _, rfl, _⟩ := h; rfl) | (obtain ⟨_, _, _, _, _, _, _, _, _, _, _, _, _, _, _, rfl, _⟩ := h; rfl) | (obtain ⟨_, _, _, _, _, _, _, _, _, _, _, _, _, _, _, _, rfl, _⟩ := h; rfl) | (obtain ⟨_, _, _, _, _, _, _, _, _, _, _, _, _, _, _, _, _, rfl, _⟩ := h; rfl) | (obtain ⟨_, _, _, _, _, _, _, _, _, _, _, _, _, _, _, _, _, _, rfl, _⟩ := h; rfl) | (obtain ⟨_, _, _, _, _, _, _, _, _, _, _, _, _, _, _, _, _, _, _, rfl, _⟩ := h; rfl) | (obtain ⟨_, _, _, _, _, _, _, _, _, _, _, _, _, _, _, _, _, _, _, _, rfl, _⟩ := h; rfl) | (obtain ⟨_, _, _, _, _, _, _, _, _, _, _, _, _, _, _, _, _, _, _, _, _, rfl, _⟩ := h; rfl) | (obtain ⟨_, _, _, _, _, _, _, _, _, _, _, _, _, _, _, _, _, _, _, _, _, _, rfl, _⟩ := h; rfl) | (obtain ⟨_, _, _, _, _, _, _, _, _, _, _, _, _, _, _, _, _, _, _, _, _, _, _, rfl, _⟩ := h; rfl)
  · obtain ⟨i, rfl, hs, q⟩ := h
    refine ⟨_, (pss_one (ps_if (pt_not (pt_val (pe_call G_is_short_integer (hr.mono (by decide)) (by rfl) g_is_short_integer k_is_short_integer b_is_short_integer .nil pass0 (pa_cons (pv 0) pa_nil))))
      pss_never
      pss_nil)), ?_⟩
    refine ⟨_, rfl, i, rfl, hs, _, rfl, ?_⟩
    exact iteF q
theorem ok_are_any_integers (T : Txt K mg C_Form C_Double) : Def P w K mg base 2 "are_any_integers" ["value", "many"] (sp_are_any_integers K C_Form C_Double) := by
  obtain ⟨f_, fd_, g_, F_⟩ := T.d_are_any_integers
  obtain ⟨f_is_any_integer, fd_is_any_integer, g_is_any_integer, k_is_any_integer, b_is_any_integer, G_is_any_integer⟩ := (ok_is_any_integer (P := P) (w := w) (base := base) T)
  refine ⟨f_, fd_, g_, F_.kp, F_.binds (ps := ["value", "many"]) (fun _ _ _ _ _ _ us hl => match us, hl with | [_, _], _ => rfl), ?_⟩
  refine F_.ok sc_are_any_integers (fun vs H Q E h => ?_) (fun cdv A outer s H vs Q E hr h => ?_)
  · first | (obtain ⟨rfl, _⟩ := h; rfl) | (obtain ⟨_, rfl, _⟩ := h; rfl) | (obtain ⟨_, _, rfl, _⟩ := h; rfl) | (obtain ⟨_, _, _, rfl, _⟩ := h; rfl) | (obtain ⟨_, _, _, _, rfl, _⟩ := h; rfl) | (obtain ⟨_, _, _, _, _, rfl, _⟩ := h; rfl) | (obtain ⟨_, _, _, _, _, _, rfl, _⟩ := h; rfl) | (obtain ⟨_, _, _, _, _, _, _, rfl, _⟩ := h; rfl) | (obtain ⟨_, _, _, _, _, _, _, _, rfl, _⟩ := h; rfl) | (obtain ⟨_, _, _, _, _, _, _, _, _, rfl, _⟩ := h; rfl) | (obtain ⟨_, _, _, _, _, _, _, _, _, _, rfl, _⟩ := h; rfl) | (obtain ⟨_, _, _, _, _, _, _, _, _, _, _, rfl, _⟩ := h; rfl) | (obtain ⟨_, _, _, _, _, _, _, _, _, _, _, _, rfl, _⟩ := h; rfl) | (obtain ⟨_, _, _, _, _, _, _, _, _, _, _, _, _, rfl, _⟩ := h; rfl) | (obtain ⟨_, _, _, _, _, _, _, _, _, _, _, _, _, _, rfl, _⟩ := h; rfl) | (obtain ⟨_, _, _, _, _, _, _, _, _, _, _, _, _, _, _, rfl, _⟩ := h; rfl) | (obtain ⟨_, _, _, _, _, _, _, _, _, _, _, _, _, _, _, _, rfl, _⟩ := h; rfl) | (obtain ⟨_, _, _, _, _, _, _, _, _, _, _, _, _, _, _, _, _, rfl, _⟩ := h; rfl) | (obtain ⟨_, _, _, _, _, _, _, _, _, _, _, _, _, _, _, _, _, _, rfl, _⟩ := h; rfl) | (obtain ⟨_, _, _, _, _, _, _, _, _, _, _, _, _, _, _, _, _, _, _, rfl, _⟩ := h; rfl) | (obtain ⟨_, _, _, _, _, _, _, _, _, _, _, _, _, _, _, _, _, _, _, _, rfl, _⟩ := h; rfl) | (obtain ⟨_, _, _, _, _, _, _, _, _, _, _, _, _, _, _, _, _, _, _, _, _, rfl, _⟩ := h; rfl) | (obtain ⟨_, _, _, _, _, _, _, _, _, _, _, _, _, _, _, _, _, _, _, _, _, _, rfl, _⟩ := h; rfl) | (obtain ⟨_, _, _, _, _, _, _, _, _, _, _, _, _, _, _, _, _, _, _, _, _, _, _, rfl, _⟩ := h; rfl)
  · obtain ⟨a, ns, rfl, ha, hl, q⟩ := h
    refine ⟨_, (pss_cons (ps_if (PW.pt (pw_or (pt_not (pt_val (pe_callB call_isi (by rfl) T.b_isinstance (by decide +kernel) (pa_cons (pv 0) (pa_cons (pe_bltn (v := .ty "tuple") (by rfl) T.b_tuple (by decide +kernel) rfl) pa_nil))))) (pw_or1 (pt_cmpR op_ne (pe_callB call_len_seq (by rfl) T.b_len PySem.boot_len (pa_cons (pv 0) pa_nil)) (pv 1) (nomark _)))))
      (pss_one (ps_ret pe_bl))
      pss_nil)
    (pss_one (ps_ret (pe_callB (cr_all rfl) (by rfl) T.b_all (by decide +kernel) (pa_cons (pe_lc (own := [("number", 2)]) (g := (gName 2)) rfl sc_are_any_integers.nd (pi_tup (pv 0)) (blkOk_by (N := N_are_any_integers) (sc := defScope s_are_any_integers) (by decide +kernel)) (fun _ _ _ _ _ => (pg_name (i := 2) sc_are_any_integers.nd rfl (.inl rfl))) (fun _ _ _ _ _ => pts_nil) (fun _ _ _ _ _ => (pe_call G_is_any_integer (hr.mono (by decide)) (by rfl) g_is_any_integer k_is_any_integer b_is_any_integer .nil pass0 (pa_cons (pv 2) pa_nil)))) pa_nil))))), ?_⟩
    refine ⟨_, rfl, _, _, _, _, true, rfl, .ty _, .base (.tup ha), kit_ty (by decide +kernel), _, rfl, ?_⟩
    refine iteF ⟨_, rfl, a, _, rfl, .inr (SqT.of ha), _, rfl, rfl, _, rfl, ?_⟩
    refine ndF (by rw [List.length_map]) ?_
    refine ⟨_, rfl, a, rfl, ⟨_, SqT.of ha⟩, ?_⟩
    refine lcT fm0 trivial (SqT.of ha) (fun z => z) (fun i acc _ => acc = (List.replicate i true).map V.bl) (fun _ _ => rfl) (fun D i x acc H' hD hx e hA hlen hp => ?_) (fun D H' acc hD e hA hp => ?_)
    · obtain ⟨n, hn, rfl⟩ := get_int hx
      have hi := (List.getElem?_eq_some_iff.mp hn).1
      refine ⟨rfl, ?_⟩
      refine ⟨_, rfl, n, rfl, ?_⟩
      refine cs_yes fm0 trivial hD e hA hlen (by omega) (Fx.refl trivial) ?_
      show acc ++ [V.bl true] = _
      rw [hp, List.replicate_succ', List.map_append]
      rfl
    · rw [List.length_map] at hp
      subst hp
      refine ⟨D, _, rfl, SqL.of hA, ?_⟩
      rw [show ((List.replicate ns.length true).all id) = true by simp]
      exact q H' e
theorem ok_are_short_integers (T : Txt K mg C_Form C_Double) : Def P w K mg base 3 "are_short_integers" ["value", "many"] (sp_are_short_integers K C_Form C_Double) := by
  obtain ⟨f_, fd_, g_, F_⟩ := T.d_are_short_integers
  refine ⟨f_, fd_, g_, F_.kp, F_.binds (ps := ["value", "many"]) (fun _ _ _ _ _ _ us hl => match us, hl with | [_, _], _ => rfl), ?_⟩
  refine F_.ok sc_are_short_integers (fun vs H Q E h => ?_) (fun cdv A outer s H vs Q E hr h => ?_)
  · first | (obtain ⟨rfl, _⟩ := h; rfl) | (obtain ⟨_, rfl, _⟩ := h; rfl) | (obtain ⟨_, _, rfl, _⟩ := h; rfl) | (obtain ⟨_, _, _, rfl, _⟩ := h; rfl) | (obtain ⟨_, _, _, _, rfl, _⟩ := h; rfl) | (obtain ⟨_, _, _, _, _, rfl, _⟩ := h; rfl) | (obtain ⟨_, _, _, _, _, _, rfl, _⟩ := h; rfl) | (obtain ⟨_, _, _, _, _, _, _, rfl, _⟩ := h; rfl) | (obtain ⟨_, _, _, _, _, _, _, _, rfl, _⟩ := h; rfl) | (obtain ⟨_, _, _, _, _, _, _, _, _, rfl, _⟩ := h; rfl) | (obtain ⟨_, _, _, _, _, _, _, _, _, _, rfl, _⟩ := h; rfl) | (obtain ⟨_, _, _, _, _, _, _, _, _, _, _, rfl, _⟩ := h; rfl) | (obtain ⟨_, _, _, _, _, _, _, _, _, _, _, _, rfl, _⟩ := h; rfl) | (obtain ⟨_, _, _, _, _, _, _, _, _, _, _, _, _, rfl, _⟩ := h; rfl) | (obtain ⟨_, _, _, _, _, _, _, _, _, _, _, _, _, _, rfl, _⟩ := h; rfl) | (obtain ⟨_, _, _, _, _, _, _, _, _, _, _, _, _, _, _, rfl, _⟩ := h; rfl) | (obtain ⟨_, _, _, _, _, _, _, _, _, _, _, _, _, _, _, _, rfl, _⟩ := h; rfl) | (obtain ⟨_, _, _, _, _, _, _, _, _, _, _, _, _, _, _, _, _, rfl, _⟩ := h; rfl) | (obtain ⟨_, _, _, _, _, _, _, _, _, _, _, _, _, _, _, _, _, _, rfl, _⟩ := h; rfl) | (obtain ⟨_, _, _, _, _, _, _, _, _, _, _, _, _, _, _, _, _, _, _, rfl, _⟩ := h; rfl) | (obtain ⟨_, _, _, _, _, _, _, _, _, _, _, _, _, _, _, _, _, _, _, _, rfl, _⟩ := h; rfl) | (obtain ⟨_, _, _, _, _, _, _, _, _, _, _, _, _, _, _, _, _, _, _, _, _, rfl, _⟩ := h; rfl) | (obtain ⟨_, _, _, _, _, _, _, _, _, _, _, _, _, _, _, _, _, _, _, _, _, _, rfl, _⟩ := h; rfl) | (obtain ⟨_, _, _, _, _, _, _, _, _, _, _, _, _, _, _, _, _, _, _, _, _, _, _, rfl, _⟩ := h; rfl)
  · obtain ⟨a, ns, rfl, ha, hl, hs, q⟩ := h
    obtain ⟨t_LIMIT, h_LIMIT⟩ := T.x_LIMIT
    refine ⟨_, (pss_cons (ps_if (PW.pt (pw_or (pt_not (pt_val (pe_callB call_isi (by rfl) T.b_isinstance (by decide +kernel) (pa_cons (pv 0) (pa_cons (pe_bltn (v := .ty "tuple") (by rfl) T.b_tuple (by decide +kernel) rfl) pa_nil))))) (pw_or1 (pt_cmpR op_ne (pe_callB call_len_seq (by rfl) T.b_len PySem.boot_len (pa_cons (pv 0) pa_nil)) (pv 1) (nomark _)))))
      (pss_one (ps_ret pe_bl))
      pss_nil)
    (pss_one (ps_ret (pe_callB (cr_all rfl) (by rfl) T.b_all (by decide +kernel) (pa_cons (pe_lc (own := [("n", 2)]) (g := (gName 2)) rfl sc_are_short_integers.nd (pi_tup (pv 0)) (blkOk_by (N := N_are_short_integers) (sc := defScope s_are_short_integers) (by decide +kernel)) (fun _ _ _ _ _ => (pg_name (i := 2) sc_are_short_integers.nd rfl (.inl rfl))) (fun _ _ _ _ _ => pts_nil) (fun _ _ _ _ _ => (pe_and (pe_callB (call_isiKK (K := K) rfl) (by rfl) T.b_isinstance (by decide +kernel) (pa_cons (pv 2) (pa_cons (pe_bltn (v := .ty "int") (by rfl) T.b_int (by decide +kernel) rfl) pa_nil))) (pe_and (pe_not (pe_callB (call_isiKK (K := K) rfl) (by rfl) T.b_isinstance (by decide +kernel) (pa_cons (pv 2) (pa_cons (pe_bltn (v := .ty "bool") (by rfl) T.b_bool (by decide +kernel) rfl) pa_nil)))) (pe_one (pe_chain op_lt op_lt (pe_un un_neg (pe_glob (v := .int 1000000000000000000000000000000000000000000000000000000000000) (by rfl) h_LIMIT ⟨_, rfl⟩)) (pv 2) (pe_glob (v := .int 1000000000000000000000000000000000000000000000000000000000000) (by rfl) h_LIMIT ⟨_, rfl⟩))))))) pa_nil))))), ?_⟩
    refine ⟨_, rfl, _, _, _, _, true, rfl, .ty _, .base (.tup ha), kit_ty (by decide +kernel), _, rfl, ?_⟩
    refine iteF ⟨_, rfl, a, _, rfl, .inr (SqT.of ha), _, rfl, rfl, _, rfl, ?_⟩
    refine ndF (by rw [List.length_map]) ?_
    refine ⟨_, rfl, a, rfl, ⟨_, SqT.of ha⟩, ?_⟩
    refine lcT fm0 trivial (SqT.of ha) (fun z => z) (fun i acc _ => acc = (List.replicate i true).map V.bl) (fun _ _ => rfl) (fun D i x acc H' hD hx e hA hlen hp => ?_) (fun D H' acc hD e hA hp => ?_)
    · obtain ⟨n, hn, rfl⟩ := get_int hx
      have hi := (List.getElem?_eq_some_iff.mp hn).1
      refine ⟨rfl, ?_⟩
      have hn2 := hs n (List.mem_of_getElem? hn)
      refine ⟨_, rfl, _, _, _, _, true, rfl, .ty _, .base (.int n), kit_ty (by decide +kernel), _, rfl, iteT ?_⟩
      refine ⟨_, rfl, _, _, _, _, false, rfl, .ty _, .base (.int n), kit_ty (by decide +kernel), _, rfl, _, rfl, iteT ?_⟩
      refine ⟨_, rfl, _, rfl, _, _, rfl, rfl, _, rfl, dT hn2.1 ⟨_, _, rfl, rfl, ?_⟩⟩
      simp only [decide_eq_true hn2.2]
      refine cs_yes fm0 trivial hD e hA hlen (by omega) (Fx.refl trivial) ?_
      show acc ++ [V.bl true] = _
      rw [hp, List.replicate_succ', List.map_append]
      rfl
    · rw [List.length_map] at hp
      subst hp
      refine ⟨D, _, rfl, SqL.of hA, ?_⟩
      rw [show ((List.replicate ns.length true).all id) = true by simp]
      exact q H' e
theorem ok_determinant_of (T : Txt K mg C_Form C_Double) : Def P w K mg base 1 "determinant_of" ["change"] (sp_determinant_of K C_Form C_Double) := by
  obtain ⟨f_, fd_, g_, F_⟩ := T.d_determinant_of
  refine ⟨f_, fd_, g_, F_.kp, F_.binds (ps := ["change"]) (fun _ _ _ _ _ _ us hl => match us, hl with | [_], _ => rfl), ?_⟩
  refine F_.ok sc_determinant_of (fun vs H Q E h => ?_) (fun cdv A outer s H vs Q E hr h => ?_)
  · first | (obtain ⟨rfl, _⟩ := h; rfl) | (obtain ⟨_, rfl, _⟩ := h; rfl) | (obtain ⟨_, _, rfl, _⟩ := h; rfl) | (obtain ⟨_, _, _, rfl, _⟩ := h; rfl) | (obtain ⟨_, _, _, _, rfl, _⟩ := h; rfl) | (obtain ⟨_, _, _, _, _, rfl, _⟩ := h; rfl) | (obtain ⟨_, _, _, _, _, _, rfl, _⟩ := h; rfl) | (obtain ⟨_, _, _, _, _, _, _, rfl, _⟩ := h; rfl) | (obtain ⟨_, _, _, _, _, _, _, _, rfl, _⟩ := h; rfl) | (obtain ⟨_, _, _, _, _, _, _, _, _, rfl, _⟩ := h; rfl) | (obtain ⟨_, _, _, _, _, _, _, _, _, _, rfl, _⟩ := h; rfl) | (obtain ⟨_, _, _, _, _, _, _, _, _, _, _, rfl, _⟩ := h; rfl) | (obtain ⟨_, _, _, _, _, _, _, _, _, _, _, _, rfl, _⟩ := h; rfl) | (obtain ⟨_, _, _, _, _, _, _, _, _, _, _, _, _, rfl, _⟩ := h; rfl) | (obtain ⟨_, _, _, _, _, _, _, _, _, _, _, _, _, _, rfl, _⟩ := h; rfl) | (obtain ⟨_, _, _, _, _, _, _, _, _, _, _, _, _, _, _, rfl, _⟩ := h; rfl) | (obtain ⟨_, _, _, _, _, _, _, _, _, _, _, _, _, _, _, _, rfl, _⟩ := h; rfl) | (obtain ⟨_, _, _, _, _, _, _, _, _, _, _, _, _, _, _, _, _, rfl, _⟩ := h; rfl) | (obtain ⟨_, _, _, _, _, _, _, _, _, _, _, _, _, _, _, _, _, _, rfl, _⟩ := h; rfl) | (obtain ⟨_, _, _, _, _, _, _, _, _, _, _, _, _, _, _, _, _, _, _, rfl, _⟩ := h; rfl) | (obtain ⟨_, _, _, _, _, _, _, _, _, _, _, _, _, _, _, _, _, _, _, _, rfl, _⟩ := h; rfl) | (obtain ⟨_, _, _, _, _, _, _, _, _, _, _, _, _, _, _, _, _, _, _, _, _, rfl, _⟩ := h; rfl) | (obtain ⟨_, _, _, _, _, _, _, _, _, _, _, _, _, _, _, _, _, _, _, _, _, _, rfl, _⟩ := h; rfl) | (obtain ⟨_, _, _, _, _, _, _, _, _, _, _, _, _, _, _, _, _, _, _, _, _, _, _, rfl, _⟩ := h; rfl)
  · obtain ⟨a, p, q', r, s', rfl, ⟨t1, t2, h0, h1, h2⟩, bp, bq, br, bs, q⟩ := h
    refine ⟨_, (pss_cons (ps_asg (pv 0) (pg_tup (by rfl) (pgs_cons (pg_tup (by rfl) (pgs_cons (pg_name (i := 1) sc_determinant_of.nd rfl (.inl rfl)) (pgs_cons (pg_name (i := 2) sc_determinant_of.nd rfl (.inl rfl)) pgs_nil))) (pgs_cons (pg_tup (by rfl) (pgs_cons (pg_name (i := 3) sc_determinant_of.nd rfl (.inl rfl)) (pgs_cons (pg_name (i := 4) sc_determinant_of.nd rfl (.inl rfl)) pgs_nil))) pgs_nil))))
    (pss_one (ps_ret (pe_op op_sub (pe_op op_mulW (pv 1) (pv 4)) (pe_op op_mulW (pv 2) (pv 3)))))), ?_⟩
    refine ⟨_, rfl, a, _, rfl, SqT.of h0, rfl, _, _, rfl, ?_⟩
    refine ⟨t1, _, rfl, SqT.of h1, rfl, _, _, rfl, ?_⟩
    refine ⟨_, _, rfl, ⟨rfl, ?_⟩⟩
    refine ⟨_, _, rfl, ?_⟩
    refine ⟨t2, _, rfl, SqT.of h2, rfl, _, _, rfl, ?_⟩
    refine ⟨_, _, rfl, ⟨rfl, ?_⟩⟩
    refine ⟨rfl, ?_⟩
    exact ⟨_, rfl, _, rfl, _, _, rfl, rfl, mulB (by with_reducible assumption) (by with_reducible assumption) (by decide), _, rfl, _, rfl, _, _, rfl, rfl, mulB (by with_reducible assumption) (by with_reducible assumption) (by decide), _, _, rfl, rfl, q⟩
theorem ok_is_change (T : Txt K mg C_Form C_Double) : Def P w K mg base 3 "is_change" ["value"] (sp_is_change K C_Form C_Double) := by
  obtain ⟨f_, fd_, g_, F_⟩ := T.d_is_change
  obtain ⟨f_are_any_integers, fd_are_any_integers, g_are_any_integers, k_are_any_integers, b_are_any_integers, G_are_any_integers⟩ := (ok_are_any_integers (P := P) (w := w) (base := base) T)
  obtain ⟨f_determinant_of, fd_determinant_of, g_determinant_of, k_determinant_of, b_determinant_of, G_determinant_of⟩ := (ok_determinant_of (P := P) (w := w) (base := base) T)
  refine ⟨f_, fd_, g_, F_.kp, F_.binds (ps := ["value"]) (fun _ _ _ _ _ _ us hl => match us, hl with | [_], _ => rfl), ?_⟩
  refine F_.ok sc_is_change (fun vs H Q E h => ?_) (fun cdv A outer s H vs Q E hr h => ?_)
  · first | (obtain ⟨rfl, _⟩ := h; rfl) | (obtain ⟨_, rfl, _⟩ := h; rfl) | (obtain ⟨_, _, rfl, _⟩ := h; rfl) | (obtain ⟨_, _, _, rfl, _⟩ := h; rfl) | (obtain ⟨_, _, _, _, rfl, _⟩ := h; rfl) | (obtain ⟨_, _, _, _, _, rfl, _⟩ := h; rfl) | (obtain ⟨_, _, _, _, _, _, rfl, _⟩ := h; rfl) | (obtain ⟨_, _, _, _, _, _, _, rfl, _⟩ := h; rfl) | (obtain ⟨_, _, _, _, _, _, _, _, rfl, _⟩ := h; rfl) | (obtain ⟨_, _, _, _, _, _, _, _, _, rfl, _⟩ := h; rfl) | (obtain ⟨_, _, _, _, _, _, _, _, _, _, rfl, _⟩ := h; rfl) | (obtain ⟨_, _, _, _, _, _, _, _, _, _, _, rfl, _⟩ := h; rfl) | (obtain ⟨_, _, _, _, _, _, _, _, _, _, _, _, rfl, _⟩ := h; rfl) | (obtain ⟨_, _, _, _, _, _, _, _, _, _, _, _, _, rfl, _⟩ := h; rfl) | (obtain ⟨_, _, _, _, _, _, _, _, _, _, _, _, _, _, rfl, _⟩ := h; rfl) | (obtain ⟨_, _, _, _, _, _, _, _, _, _, _, _, _, _, _, rfl, _⟩ := h; rfl) | (obtain ⟨_, _, _, _, _, _, _, _, _, _, _, _, _, _, _, _, rfl, _⟩ := h; rfl) | (obtain ⟨_, _, _, _, _, _, _, _, _, _, _, _, _, _, _, _, _, rfl, _⟩ := h; rfl) | (obtain ⟨_, _, _, _, _, _, _, _, _, _, _, _, _, _, _, _, _, _, rfl, _⟩ := h; rfl) | (obtain ⟨_, _, _, _, _, _, _, _, _, _, _, _, _, _, _, _, _, _, _, rfl, _⟩ := h; rfl) | (obtain ⟨_, _, _, _, _, _, _, _, _, _, _, _, _, _, _, _, _, _, _, _, rfl, _⟩ := h; rfl) | (obtain ⟨_, _, _, _, _, _, _, _, _, _, _, _, _, _, _, _, _, _, _, _, _, rfl, _⟩ := h; rfl) | (obtain ⟨_, _, _, _, _, _, _, _, _, _, _, _, _, _, _, _, _, _, _, _, _, _, rfl, _⟩ := h; rfl) | (obtain ⟨_, _, _, _, _, _, _, _, _, _, _, _, _, _, _, _, _, _, _, _, _, _, _, rfl, _⟩ := h; rfl)
  · obtain ⟨a, p, q', r, s', rfl, h4, hc, q⟩ := h
    obtain ⟨t1, t2, h0, h1, h2⟩ := id h4
    refine ⟨_, (pss_cons (ps_if (PW.pt (pw_or (pt_not (pt_val (pe_callB call_isi (by rfl) T.b_isinstance (by decide +kernel) (pa_cons (pv 0) (pa_cons (pe_bltn (v := .ty "tuple") (by rfl) T.b_tuple (by decide +kernel) rfl) pa_nil))))) (pw_or1 (pt_cmpR op_ne (pe_callB call_len_seq (by rfl) T.b_len PySem.boot_len (pa_cons (pv 0) pa_nil)) pe_int (nomark _)))))
      (pss_one (ps_ret pe_bl))
      pss_nil)
    (pss_cons (ps_if (pt_not (pt_val (pe_callB (cr_all rfl) (by rfl) T.b_all (by decide +kernel) (pa_cons (pe_lc (own := [("row", 1)]) (g := (gName 1)) rfl sc_is_change.nd (pi_tup (pv 0)) (blkOk_by (N := N_is_change) (sc := defScope s_is_change) (by decide +kernel)) (fun _ _ _ _ _ => (pg_name (i := 1) sc_is_change.nd rfl (.inl rfl))) (fun _ _ _ _ _ => pts_nil) (fun _ _ _ _ _ => (pe_call G_are_any_integers (hr.mono (by decide)) (by rfl) g_are_any_integers k_are_any_integers b_are_any_integers .nil pass0 (pa_cons (pv 1) (pa_cons pe_int pa_nil))))) pa_nil))))
      (pss_one (ps_ret pe_bl))
      pss_nil)
    (pss_one (ps_ret (pe_cmpR op_in_seq (pe_call G_determinant_of (hr.mono (by decide)) (by rfl) g_determinant_of k_determinant_of b_determinant_of .nil pass0 (pa_cons (pv 0) pa_nil)) (pe_tup (pa_cons pe_int (pa_cons (pe_un un_neg pe_int) pa_nil))) (by with_unfolding_all rfl)))))), ?_⟩
    refine ⟨_, rfl, _, _, _, _, true, rfl, .ty _, .base (.tup h0), kit_ty (by decide +kernel), _, rfl, ?_⟩
    refine iteF ⟨_, rfl, a, _, rfl, .inr (SqT.of h0), rfl, _, rfl, ?_⟩
    refine ndF rfl ?_
    refine ⟨_, rfl, a, rfl, ⟨_, SqT.of h0⟩, ?_⟩
    refine lcT fm0 trivial (SqT.of h0) (fun z => z) (fun i acc _ => acc = (List.replicate i true).map V.bl) (fun _ _ => rfl) (fun D i x acc H' hD hx e hA hlen hp => ?_) (fun D H' acc hD e hA hp => ?_)
    · have fin : ∀ (t : Addr) (u v : Int), x = .ref t → H t = some (.tup [.int u, .int v]) → i < 2 → ∃ t, x = .ref t ∧ ∃ u v, H' t = some (.tup [.int u, .int v]) ∧ i < 2 := fun t u v e1 e2 e3 => ⟨t, e1, u, v, Ex0.ap e e2, e3⟩
      obtain ⟨t, rfl, u, v, ht, hi⟩ : ∃ t, x = .ref t ∧ ∃ u v, H' t = some (.tup [.int u, .int v]) ∧ i < 2 := by
        match i, hx with
        | 0, hx => exact fin t1 p q' (Option.some.inj hx).symm h1 (by decide)
        | 1, hx => exact fin t2 r s' (Option.some.inj hx).symm h2 (by decide)
      refine ⟨rfl, ?_⟩
      refine ⟨_, rfl, t, [u, v], rfl, ht, by show 2 ≤ 1000; decide, fun H'' e'' => ?_⟩
      refine cs_yes fm0 trivial hD e hA hlen (by omega) e'' ?_
      rw [hp, List.replicate_succ', List.map_append]
      rfl
    · refine ⟨D, List.replicate 2 true, rfl, SqL.of (by rw [hA, hp]; rfl), _, rfl, ?_⟩
      refine ⟨_, rfl, a, p, q', r, s', rfl, Ex0.t4 e h4, hc.1.b, hc.2.1.b, hc.2.2.1.b, hc.2.2.2.1.b, _, rfl, sl2, fun u nu => ?_⟩
      refine ⟨u, _, rfl, .inr (SqT.of upd_same), rfl, rfl, ?_⟩
      have e1 : inV (.int (p * s' - q' * r)) [.int 1, .int (-1)] = true := by
        show ((1 : Int) == p * s' - q' * r || ((-1 : Int) == p * s' - q' * r || false)) = true
        rcases hc.2.2.2.2 with z | z <;> rw [z] <;> decide
      show Q (.bl (inV (.int (p * s' - q' * r)) [.int 1, .int (-1)])) _
      rw [e1]
      exact q _ (e.trans (Ex0.new nu))
theorem ok_is_short_change (T : Txt K mg C_Form C_Double) : Def P w K mg base 4 "is_short_change" ["value"] (sp_is_short_change K C_Form C_Double) := by
  obtain ⟨f_, fd_, g_, F_⟩ := T.d_is_short_change
  obtain ⟨f_are_short_integers, fd_are_short_integers, g_are_short_integers, k_are_short_integers, b_are_short_integers, G_are_short_integers⟩ := (ok_are_short_integers (P := P) (w := w) (base := base) T)
  obtain ⟨f_is_change, fd_is_change, g_is_change, k_is_change, b_is_change, G_is_change⟩ := (ok_is_change (P := P) (w := w) (base := base) T)
  refine ⟨f_, fd_, g_, F_.kp, F_.binds (ps := ["value"]) (fun _ _ _ _ _ _ us hl => match us, hl with | [_], _ => rfl), ?_⟩
  refine F_.ok sc_is_short_change (fun vs H Q E h => ?_) (fun cdv A outer s H vs Q E hr h => ?_)
  · first | (obtain ⟨rfl, _⟩ := h; rfl) | (obtain ⟨_, rfl, _⟩ := h; rfl) | (obtain ⟨_, _, rfl, _⟩ := h; rfl) | (obtain ⟨_, _, _, rfl, _⟩ := h; rfl) | (obtain ⟨_, _, _, _, rfl, _⟩ := h; rfl) | (obtain ⟨_, _, _, _, _, rfl, _⟩ := h; rfl) | (obtain ⟨_, _, _, _, _, _, rfl, _⟩ := h; rfl) | (obtain ⟨_, _, _, _, _, _, _, rfl, _⟩ := h; rfl) | (obtain ⟨_, _, _, _, _, _, _, _, rfl, _⟩ := h; rfl) | (obtain ⟨_, _, _, _, _, _, _, _, _, rfl, _⟩ := h; rfl) | (obtain ⟨_, _, _, _, _, _, _, _, _, _, rfl, _⟩ := h; rfl) | (obtain ⟨_, _, _, _, _, _, _, _, _, _, _, rfl, _⟩ := h; rfl) | (obtain ⟨_, _, _, _, _, _, _, _, _, _, _, _, rfl, _⟩ := h; rfl) | (obtain ⟨_, _, _, _, _, _, _, _, _, _, _, _, _, rfl, _⟩ := h; rfl) | (obtain ⟨_, _, _, _, _, _, _, _, _, _, _, _, _, _, rfl, _⟩ := h; rfl) | (obtain ⟨_, _, _, _, _, _, _, _, _, _, _, _, _, _, _, rfl, _⟩ := h; rfl) | (obtain ⟨_, _, _, _, _, _, _, _, _, _, _, _, _, _, _, _, rfl, _⟩ := h; rfl) | (obtain ⟨_, _, _, _, _, _, _, _, _, _, _, _, _, _, _, _, _, rfl, _⟩ := h; rfl) | (obtain ⟨_, _, _, _, _, _, _, _, _, _, _, _, _, _, _, _, _, _, rfl, _⟩ := h; rfl) | (obtain ⟨_, _, _, _, _, _, _, _, _, _, _, _, _, _, _, _, _, _, _, rfl, _⟩ := h; rfl) | (obtain ⟨_, _, _, _, _, _, _, _, _, _, _, _, _, _, _, _, _, _, _, _, rfl, _⟩ := h; rfl) | (obtain ⟨_, _, _, _, _, _, _, _, _, _, _, _, _, _, _, _, _, _, _, _, _, rfl, _⟩ := h; rfl) | (obtain ⟨_, _, _, _, _, _, _, _, _, _, _, _, _, _, _, _, _, _, _, _, _, _, rfl, _⟩ := h; rfl) | (obtain ⟨_, _, _, _, _, _, _, _, _, _, _, _, _, _, _, _, _, _, _, _, _, _, _, rfl, _⟩ := h; rfl)
  · obtain ⟨a, p, q', r, s', rfl, h4, hc, q⟩ := h
    refine ⟨_, (pss_one (ps_ret (pe_and (pe_call G_is_change (hr.mono (by decide)) (by rfl) g_is_change k_is_change b_is_change .nil pass0 (pa_cons (pv 0) pa_nil)) (pe_one (pe_callB (cr_all rfl) (by rfl) T.b_all (by decide +kernel) (pa_cons (pe_lc (own := [("row", 1)]) (g := (gName 1)) rfl sc_is_short_change.nd (pi_tup (pv 0)) (blkOk_by (N := N_is_short_change) (sc := defScope s_is_short_change) (by decide +kernel)) (fun _ _ _ _ _ => (pg_name (i := 1) sc_is_short_change.nd rfl (.inl rfl))) (fun _ _ _ _ _ => pts_nil) (fun _ _ _ _ _ => (pe_call G_are_short_integers (hr.mono (by decide)) (by rfl) g_are_short_integers k_are_short_integers b_are_short_integers .nil pass0 (pa_cons (pv 1) (pa_cons pe_int pa_nil))))) pa_nil)))))), ?_⟩
    refine ⟨_, rfl, a, p, q', r, s', rfl, h4, hc, fun H1 e1 => ⟨_, rfl, iteT ?_⟩⟩
    obtain ⟨t1, t2, h0, h1, h2⟩ := Ex0.t4 e1 h4
    refine ⟨_, rfl, a, rfl, ⟨_, SqT.of h0⟩, ?_⟩
    refine lcT fm0 trivial (SqT.of h0) (fun z => z) (fun i acc _ => acc = (List.replicate i true).map V.bl) (fun _ _ => rfl) (fun D i x acc H' hD hx e hA hlen hp => ?_) (fun D H' acc hD e hA hp => ?_)
    · have fin : ∀ (t : Addr) (u v : Int), x = .ref t → H1 t = some (.tup [.int u, .int v]) → Short u → Short v → i < 2 → ∃ t, x = .ref t ∧ ∃ u v, H' t = some (.tup [.int u, .int v]) ∧ Short u ∧ Short v ∧ i < 2 := fun t u v e1 e2 e3 e4 e5 => ⟨t, e1, u, v, Ex0.ap e e2, e3, e4, e5⟩
      obtain ⟨t, rfl, u, v, ht, su, sv, hi⟩ : ∃ t, x = .ref t ∧ ∃ u v, H' t = some (.tup [.int u, .int v]) ∧ Short u ∧ Short v ∧ i < 2 := by
        match i, hx with
        | 0, hx => exact fin t1 p q' (Option.some.inj hx).symm h1 hc.1 hc.2.1 (by decide)
        | 1, hx => exact fin t2 r s' (Option.some.inj hx).symm h2 hc.2.2.1 hc.2.2.2.1 (by decide)
      refine ⟨rfl, ?_⟩
      refine ⟨_, rfl, t, [u, v], rfl, ht, by show 2 ≤ 1000; decide, fun n hn => ?_, fun H'' e'' => ?_⟩
      · simp only [List.mem_cons, List.mem_nil_iff, or_false] at hn
        rcases hn with rfl | rfl
        · exact su
        · exact sv
      · refine cs_yes fm0 trivial hD e hA hlen (by omega) e'' ?_
        rw [hp, List.replicate_succ', List.map_append]
        rfl
    · refine ⟨D, List.replicate 2 true, rfl, SqL.of (by rw [hA, hp]; rfl), ?_⟩
      exact q _ (e1.trans e)
theorem ok_check_change (T : Txt K mg C_Form C_Double) : Def P w K mg base 5 "check_change" ["value"] (sp_check_change K C_Form C_Double) := by
  obtain ⟨f_, fd_, g_, F_⟩ := T.d_check_change
  obtain ⟨f_is_short_change, fd_is_short_change, g_is_short_change, k_is_short_change, b_is_short_change, G_is_short_change⟩ := (ok_is_short_change (P := P) (w := w) (base := base) T)
  refine ⟨f_, fd_, g_, F_.kp, F_.binds (ps := ["value"]) (fun _ _ _ _ _ _ us hl => match us, hl with | [_], _ => rfl), ?_⟩
  refine F_.ok sc_check_change (fun vs H Q E h => ?_) (fun cdv A outer s H vs Q E hr h => ?_)
  · first | (obtain ⟨rfl, _⟩ := h; rfl) | (obtain ⟨_, rfl, _⟩ := h; rfl) | (obtain ⟨_, _, rfl, _⟩ := h; rfl) | (obtain ⟨_, _, _, rfl, _⟩ := h; rfl) | (obtain ⟨_, _, _, _, rfl, _⟩ := h; rfl) | (obtain ⟨_, _, _, _, _, rfl, _⟩ := h; rfl) | (obtain ⟨_, _, _, _, _, _, rfl, _⟩ := h; rfl) | (obtain ⟨_, _, _, _, _, _, _, rfl, _⟩ := h; rfl) | (obtain ⟨_, _, _, _, _, _, _, _, rfl, _⟩ := h; rfl) | (obtain ⟨_, _, _, _, _, _, _, _, _, rfl, _⟩ := h; rfl) | (obtain ⟨_, _, _, _, _, _, _, _, _, _, rfl, _⟩ := h; rfl) | (obtain ⟨_, _, _, _, _, _, _, _, _, _, _, rfl, _⟩ := h; rfl) | (obtain ⟨_, _, _, _, _, _, _, _, _, _, _, _, rfl, _⟩ := h; rfl) | (obtain ⟨_, _, _, _, _, _, _, _, _, _, _, _, _, rfl, _⟩ := h; rfl) | (obtain ⟨_, _, _, _, _, _, _, _, _, _, _, _, _, _, rfl, _⟩ := h; rfl) | (obtain ⟨_, _, _, _, _, _, _, _, _, _, _, _, _, _, _, rfl, _⟩ := h; rfl) | (obtain ⟨_, _, _, _, _, _, _, _, _, _, _, _, _, _, _, _, rfl, _⟩ := h; rfl) | (obtain ⟨_, _, _, _, _, _, _, _, _, _, _, _, _, _, _, _, _, rfl, _⟩ := h; rfl) | (obtain ⟨_, _, _, _, _, _, _, _, _, _, _, _, _, _, _, _, _, _, rfl, _⟩ := h; rfl) | (obtain ⟨_, _, _, _, _, _, _, _, _, _, _, _, _, _, _, _, _, _, _, rfl, _⟩ := h; rfl) | (obtain ⟨_, _, _, _, _, _, _, _, _, _, _, _, _, _, _, _, _, _, _, _, rfl, _⟩ := h; rfl) | (obtain ⟨_, _, _, _, _, _, _, _, _, _, _, _, _, _, _, _, _, _, _, _, _, rfl, _⟩ := h; rfl) | (obtain ⟨_, _, _, _, _, _, _, _, _, _, _, _, _, _, _, _, _, _, _, _, _, _, rfl, _⟩ := h; rfl) | (obtain ⟨_, _, _, _, _, _, _, _, _, _, _, _, _, _, _, _, _, _, _, _, _, _, _, rfl, _⟩ := h; rfl)
  · obtain ⟨a, p, q', r, s', rfl, h4, hc, q⟩ := h
    refine ⟨_, (pss_one (ps_if (pt_not (pt_val (pe_call G_is_short_change (hr.mono (by decide)) (by rfl) g_is_short_change k_is_short_change b_is_short_change .nil pass0 (pa_cons (pv 0) pa_nil))))
      pss_never
      pss_nil)), ?_⟩
    refine ⟨_, rfl, a, p, q', r, s', rfl, h4, hc, fun H1 e1 => ⟨_, rfl, ?_⟩⟩
    exact iteF (q _ e1)
theorem ok_form_value (T : Txt K mg C_Form C_Double) : Def P w K mg base 1 "form_value" ["coefficients", "x", "y"] (sp_form_value K C_Form C_Double) := by
  obtain ⟨f_, fd_, g_, F_⟩ := T.d_form_value
  refine ⟨f_, fd_, g_, F_.kp, F_.binds (ps := ["coefficients", "x", "y"]) (fun _ _ _ _ _ _ us hl => match us, hl with | [_, _, _], _ => rfl), ?_⟩
  refine F_.ok sc_form_value (fun vs H Q E h => ?_) (fun cdv A outer s H vs Q E hr h => ?_)
  · first | (obtain ⟨rfl, _⟩ := h; rfl) | (obtain ⟨_, rfl, _⟩ := h; rfl) | (obtain ⟨_, _, rfl, _⟩ := h; rfl) | (obtain ⟨_, _, _, rfl, _⟩ := h; rfl) | (obtain ⟨_, _, _, _, rfl, _⟩ := h; rfl) | (obtain ⟨_, _, _, _, _, rfl, _⟩ := h; rfl) | (obtain ⟨_, _, _, _, _, _, rfl, _⟩ := h; rfl) | (obtain ⟨_, _, _, _, _, _, _, rfl, _⟩ := h; rfl) | (obtain ⟨_, _, _, _, _, _, _, _, rfl, _⟩ := h; rfl) | (obtain ⟨_, _, _, _, _, _, _, _, _, rfl, _⟩ := h; rfl) | (obtain ⟨_, _, _, _, _, _, _, _, _, _, rfl, _⟩ := h; rfl) | (obtain ⟨_, _, _, _, _, _, _, _, _, _, _, rfl, _⟩ := h; rfl) | (obtain ⟨_, _, _, _, _, _, _, _, _, _, _, _, rfl, _⟩ := h; rfl) | (obtain ⟨_, _, _, _, _, _, _, _, _, _, _, _, _, rfl, _⟩ := h; rfl) | (obtain ⟨_, _, _, _, _, _, _, _, _, _, _, _, _, _, rfl, _⟩ := h; rfl) | (obtain ⟨_, _, _, _, _, _, _, _, _, _, _, _, _, _, _, rfl, _⟩ := h; rfl) | (obtain ⟨_, _, _, _, _, _, _, _, _, _, _, _, _, _, _, _, rfl, _⟩ := h; rfl) | (obtain ⟨_, _, _, _, _, _, _, _, _, _, _, _, _, _, _, _, _, rfl, _⟩ := h; rfl) | (obtain ⟨_, _, _, _, _, _, _, _, _, _, _, _, _, _, _, _, _, _, rfl, _⟩ := h; rfl) | (obtain ⟨_, _, _, _, _, _, _, _, _, _, _, _, _, _, _, _, _, _, _, rfl, _⟩ := h; rfl) | (obtain ⟨_, _, _, _, _, _, _, _, _, _, _, _, _, _, _, _, _, _, _, _, rfl, _⟩ := h; rfl) | (obtain ⟨_, _, _, _, _, _, _, _, _, _, _, _, _, _, _, _, _, _, _, _, _, rfl, _⟩ := h; rfl) | (obtain ⟨_, _, _, _, _, _, _, _, _, _, _, _, _, _, _, _, _, _, _, _, _, _, rfl, _⟩ := h; rfl) | (obtain ⟨_, _, _, _, _, _, _, _, _, _, _, _, _, _, _, _, _, _, _, _, _, _, _, rfl, _⟩ := h; rfl)
  · obtain ⟨t, a, b, c, d, x, y, rfl, ht, ba, bb, bc, bd, bx, by', q⟩ := h
    refine ⟨_, (pss_cons (ps_asg (pv 0) (pg_tup (by rfl) (pgs_cons (pg_name (i := 3) sc_form_value.nd rfl (.inl rfl)) (pgs_cons (pg_name (i := 4) sc_form_value.nd rfl (.inl rfl)) (pgs_cons (pg_name (i := 5) sc_form_value.nd rfl (.inl rfl)) (pgs_cons (pg_name (i := 6) sc_form_value.nd rfl (.inl rfl)) pgs_nil))))))
    (pss_one (ps_ret (pe_op op_add (pe_op op_add (pe_op op_add (pe_op op_mulW (pe_op op_mulW (pe_op op_mulW (pv 3) (pv 1)) (pv 1)) (pv 1)) (pe_op op_mulW (pe_op op_mulW (pe_op op_mulW (pv 4) (pv 1)) (pv 1)) (pv 2))) (pe_op op_mulW (pe_op op_mulW (pe_op op_mulW (pv 5) (pv 1)) (pv 2)) (pv 2))) (pe_op op_mulW (pe_op op_mulW (pe_op op_mulW (pv 6) (pv 2)) (pv 2)) (pv 2)))))), ?_⟩
    refine ⟨_, rfl, unI4 ht ?_⟩
    exact ⟨_, rfl, _, rfl, _, _, rfl, rfl, mulB (by with_reducible assumption) (by with_reducible assumption) (by decide), _, rfl, _, _, rfl, rfl, mulB (B.mul (by with_reducible assumption) (by with_reducible assumption)) (by with_reducible assumption) (by decide), _, rfl, _, _, rfl, rfl, mulB (B.mul (B.mul (by with_reducible assumption) (by with_reducible assumption)) (by with_reducible assumption)) (by with_reducible assumption) (by decide), _, rfl, _, rfl, _, _, rfl, rfl, mulB (by with_reducible assumption) (by with_reducible assumption) (by decide), _, rfl, _, _, rfl, rfl, mulB (B.mul (by with_reducible assumption) (by with_reducible assumption)) (by with_reducible assumption) (by decide), _, rfl, _, _, rfl, rfl, mulB (B.mul (B.mul (by with_reducible assumption) (by with_reducible assumption)) (by with_reducible assumption)) (by with_reducible assumption) (by decide), _, _, rfl, rfl, _, rfl, _, rfl, _, _, rfl, rfl, mulB (by with_reducible assumption) (by with_reducible assumption) (by decide), _, rfl, _, _, rfl, rfl, mulB (B.mul (by with_reducible assumption) (by with_reducible assumption)) (by with_reducible assumption) (by decide), _, rfl, _, _, rfl, rfl, mulB (B.mul (B.mul (by with_reducible assumption) (by with_reducible assumption)) (by with_reducible assumption)) (by with_reducible assumption) (by decide), _, _, rfl, rfl, _, rfl, _, rfl, _, _, rfl, rfl, mulB (by with_reducible assumption) (by with_reducible assumption) (by decide), _, rfl, _, _, rfl, rfl, mulB (B.mul (by with_reducible assumption) (by with_reducible assumption)) (by with_reducible assumption) (by decide), _, rfl, _, _, rfl, rfl, mulB (B.mul (B.mul (by with_reducible assumption) (by with_reducible assumption)) (by with_reducible assumption)) (by with_reducible assumption) (by decide), _, _, rfl, rfl, q⟩
theorem ok_form_discriminant (T : Txt K mg C_Form C_Double) : Def P w K mg base 1 "form_discriminant" ["coefficients"] (sp_form_discriminant K C_Form C_Double) := by
  obtain ⟨f_, fd_, g_, F_⟩ := T.d_form_discriminant
  refine ⟨f_, fd_, g_, F_.kp, F_.binds (ps := ["coefficients"]) (fun _ _ _ _ _ _ us hl => match us, hl with | [_], _ => rfl), ?_⟩
  refine F_.ok sc_form_discriminant (fun vs H Q E h => ?_) (fun cdv A outer s H vs Q E hr h => ?_)
  · first | (obtain ⟨rfl, _⟩ := h; rfl) | (obtain ⟨_, rfl, _⟩ := h; rfl) | (obtain ⟨_, _, rfl, _⟩ := h; rfl) | (obtain ⟨_, _, _, rfl, _⟩ := h; rfl) | (obtain ⟨_, _, _, _, rfl, _⟩ := h; rfl) | (obtain ⟨_, _, _, _, _, rfl, _⟩ := h; rfl) | (obtain ⟨_, _, _, _, _, _, rfl, _⟩ := h; rfl) | (obtain ⟨_, _, _, _, _, _, _, rfl, _⟩ := h; rfl) | (obtain ⟨_, _, _, _, _, _, _, _, rfl, _⟩ := h; rfl) | (obtain ⟨_, _, _, _, _, _, _, _, _, rfl, _⟩ := h; rfl) | (obtain ⟨_, _, _, _, _, _, _, _, _, _, rfl, _⟩ := h; rfl) | (obtain ⟨_, _, _, _, _, _, _, _, _, _, _, rfl, _⟩ := h; rfl) | (obtain ⟨_, _, _, _, _, _, _, _, _, _, _, _, rfl, _⟩ := h; rfl) | (obtain ⟨_, _, _, _, _, _, _, _, _, _, _, _, _, rfl, _⟩ := h; rfl) | (obtain ⟨_, _, _, _, _, _, _, _, _, _, _, _, _, _, rfl, _⟩ := h; rfl) | (obtain ⟨_, _, _, _, _, _, _, _, _, _, _, _, _, _, _, rfl, _⟩ := h; rfl) | (obtain ⟨_, _, _, _, _, _, _, _, _, _, _, _, _, _, _, _, rfl, _⟩ := h; rfl) | (obtain ⟨_, _, _, _, _, _, _, _, _, _, _, _, _, _, _, _, _, rfl, _⟩ := h; rfl) | (obtain ⟨_, _, _, _, _, _, _, _, _, _, _, _, _, _, _, _, _, _, rfl, _⟩ := h; rfl) | (obtain ⟨_, _, _, _, _, _, _, _, _, _, _, _, _, _, _, _, _, _, _, rfl, _⟩ := h; rfl) | (obtain ⟨_, _, _, _, _, _, _, _, _, _, _, _, _, _, _, _, _, _, _, _, rfl, _⟩ := h; rfl) | (obtain ⟨_, _, _, _, _, _, _, _, _, _, _, _, _, _, _, _, _, _, _, _, _, rfl, _⟩ := h; rfl) | (obtain ⟨_, _, _, _, _, _, _, _, _, _, _, _, _, _, _, _, _, _, _, _, _, _, rfl, _⟩ := h; rfl) | (obtain ⟨_, _, _, _, _, _, _, _, _, _, _, _, _, _, _, _, _, _, _, _, _, _, _, rfl, _⟩ := h; rfl)
  · obtain ⟨t, a, b, c, d, rfl, ht, ba, bb, bc, bd, q⟩ := h
    refine ⟨_, (pss_cons (ps_asg (pv 0) (pg_tup (by rfl) (pgs_cons (pg_name (i := 1) sc_form_discriminant.nd rfl (.inl rfl)) (pgs_cons (pg_name (i := 2) sc_form_discriminant.nd rfl (.inl rfl)) (pgs_cons (pg_name (i := 3) sc_form_discriminant.nd rfl (.inl rfl)) (pgs_cons (pg_name (i := 4) sc_form_discriminant.nd rfl (.inl rfl)) pgs_nil))))))
    (pss_one (ps_ret (pe_op op_add (pe_op op_sub (pe_op op_sub (pe_op op_sub (pe_op op_mulW (pe_op op_mulW (pe_op op_mulW (pv 2) (pv 2)) (pv 3)) (pv 3)) (pe_op op_mulW (pe_op op_mulW (pe_op op_mulW (pe_op op_mulW pe_int (pv 1)) (pv 3)) (pv 3)) (pv 3))) (pe_op op_mulW (pe_op op_mulW (pe_op op_mulW (pe_op op_mulW pe_int (pv 2)) (pv 2)) (pv 2)) (pv 4))) (pe_op op_mulW (pe_op op_mulW (pe_op op_mulW (pe_op op_mulW pe_int (pv 1)) (pv 1)) (pv 4)) (pv 4))) (pe_op op_mulW (pe_op op_mulW (pe_op op_mulW (pe_op op_mulW pe_int (pv 1)) (pv 2)) (pv 3)) (pv 4)))))), ?_⟩
    refine ⟨_, rfl, unI4 ht ?_⟩
    exact ⟨_, rfl, _, rfl, _, _, rfl, rfl, mulB (by with_reducible assumption) (by with_reducible assumption) (by decide), _, rfl, _, _, rfl, rfl, mulB (B.mul (by with_reducible assumption) (by with_reducible assumption)) (by with_reducible assumption) (by decide), _, rfl, _, _, rfl, rfl, mulB (B.mul (B.mul (by with_reducible assumption) (by with_reducible assumption)) (by with_reducible assumption)) (by with_reducible assumption) (by decide), _, rfl, _, _, rfl, rfl, mulB (B.lit (by decide)) (by with_reducible assumption) (by decide), _, rfl, _, _, rfl, rfl, mulB (B.mul (B.lit (by decide)) (by with_reducible assumption)) (by with_reducible assumption) (by decide), _, rfl, _, _, rfl, rfl, mulB (B.mul (B.mul (B.lit (by decide)) (by with_reducible assumption)) (by with_reducible assumption)) (by with_reducible assumption) (by decide), _, rfl, _, _, rfl, rfl, mulB (B.mul (B.mul (B.mul (B.lit (by decide)) (by with_reducible assumption)) (by with_reducible assumption)) (by with_reducible assumption)) (by with_reducible assumption) (by decide), _, _, rfl, rfl, _, rfl, _, _, rfl, rfl, mulB (B.lit (by decide)) (by with_reducible assumption) (by decide), _, rfl, _, _, rfl, rfl, mulB (B.mul (B.lit (by decide)) (by with_reducible assumption)) (by with_reducible assumption) (by decide), _, rfl, _, _, rfl, rfl, mulB (B.mul (B.mul (B.lit (by decide)) (by with_reducible assumption)) (by with_reducible assumption)) (by with_reducible assumption) (by decide), _, rfl, _, _, rfl, rfl, mulB (B.mul (B.mul (B.mul (B.lit (by decide)) (by with_reducible assumption)) (by with_reducible assumption)) (by with_reducible assumption)) (by with_reducible assumption) (by decide), _, _, rfl, rfl, _, rfl, _, _, rfl, rfl, mulB (B.lit (by decide)) (by with_reducible assumption) (by decide), _, rfl, _, _, rfl, rfl, mulB (B.mul (B.lit (by decide)) (by with_reducible assumption)) (by with_reducible assumption) (by decide), _, rfl, _, _, rfl, rfl, mulB (B.mul (B.mul (B.lit (by decide)) (by with_reducible assumption)) (by with_reducible assumption)) (by with_reducible assumption) (by decide), _, rfl, _, _, rfl, rfl, mulB (B.mul (B.mul (B.mul (B.lit (by decide)) (by with_reducible assumption)) (by with_reducible assumption)) (by with_reducible assumption)) (by with_reducible assumption) (by decide), _, _, rfl, rfl, _, rfl, _, _, rfl, rfl, mulB (B.lit (by decide)) (by with_reducible assumption) (by decide), _, rfl, _, _, rfl, rfl, mulB (B.mul (B.lit (by decide)) (by with_reducible assumption)) (by with_reducible assumption) (by decide), _, rfl, _, _, rfl, rfl, mulB (B.mul (B.mul (B.lit (by decide)) (by with_reducible assumption)) (by with_reducible assumption)) (by with_reducible assumption) (by decide), _, rfl, _, _, rfl, rfl, mulB (B.mul (B.mul (B.mul (B.lit (by decide)) (by with_reducible assumption)) (by with_reducible assumption)) (by with_reducible assumption)) (by with_reducible assumption) (by decide), _, _, rfl, rfl, q⟩
theorem ok_double_value (T : Txt K mg C_Form C_Double) : Def P w K mg base 1 "double_value" ["coefficients", "x", "y"] (sp_double_value K C_Form C_Double) := by
  obtain ⟨f_, fd_, g_, F_⟩ := T.d_double_value
  refine ⟨f_, fd_, g_, F_.kp, F_.binds (ps := ["coefficients", "x", "y"]) (fun _ _ _ _ _ _ us hl => match us, hl with | [_, _, _], _ => rfl), ?_⟩
  refine F_.ok sc_double_value (fun vs H Q E h => ?_) (fun cdv A outer s H vs Q E hr h => ?_)
  · first | (obtain ⟨rfl, _⟩ := h; rfl) | (obtain ⟨_, rfl, _⟩ := h; rfl) | (obtain ⟨_, _, rfl, _⟩ := h; rfl) | (obtain ⟨_, _, _, rfl, _⟩ := h; rfl) | (obtain ⟨_, _, _, _, rfl, _⟩ := h; rfl) | (obtain ⟨_, _, _, _, _, rfl, _⟩ := h; rfl) | (obtain ⟨_, _, _, _, _, _, rfl, _⟩ := h; rfl) | (obtain ⟨_, _, _, _, _, _, _, rfl, _⟩ := h; rfl) | (obtain ⟨_, _, _, _, _, _, _, _, rfl, _⟩ := h; rfl) | (obtain ⟨_, _, _, _, _, _, _, _, _, rfl, _⟩ := h; rfl) | (obtain ⟨_, _, _, _, _, _, _, _, _, _, rfl, _⟩ := h; rfl) | (obtain ⟨_, _, _, _, _, _, _, _, _, _, _, rfl, _⟩ := h; rfl) | (obtain ⟨_, _, _, _, _, _, _, _, _, _, _, _, rfl, _⟩ := h; rfl) | (obtain ⟨_, _, _, _, _, _, _, _, _, _, _, _, _, rfl, _⟩ := h; rfl) | (obtain ⟨_, _, _, _, _, _, _, _, _, _, _, _, _, _, rfl, _⟩ := h; rfl) | (obtain ⟨_, _, _, _, _, _, _, _, _, _, _, _, _, _, _, rfl, _⟩ := h; rfl) | (obtain ⟨_, _, _, _, _, _, _, _, _, _, _, _, _, _, _, _, rfl, _⟩ := h; rfl) | (obtain ⟨_, _, _, _, _, _, _, _, _, _, _, _, _, _, _, _, _, rfl, _⟩ := h; rfl) | (obtain ⟨_, _, _, _, _, _, _, _, _, _, _, _, _, _, _, _, _, _, rfl, _⟩ := h; rfl) | (obtain ⟨_, _, _, _, _, _, _, _, _, _, _, _, _, _, _, _, _, _, _, rfl, _⟩ := h; rfl) | (obtain ⟨_, _, _, _, _, _, _, _, _, _, _, _, _, _, _, _, _, _, _, _, rfl, _⟩ := h; rfl) | (obtain ⟨_, _, _, _, _, _, _, _, _, _, _, _, _, _, _, _, _, _, _, _, _, rfl, _⟩ := h; rfl) | (obtain ⟨_, _, _, _, _, _, _, _, _, _, _, _, _, _, _, _, _, _, _, _, _, _, rfl, _⟩ := h; rfl) | (obtain ⟨_, _, _, _, _, _, _, _, _, _, _, _, _, _, _, _, _, _, _, _, _, _, _, rfl, _⟩ := h; rfl)
  · obtain ⟨t, a, b, c, x, y, rfl, ht, ba, bb, bc, bx, by', q⟩ := h
    refine ⟨_, (pss_cons (ps_asg (pv 0) (pg_tup (by rfl) (pgs_cons (pg_name (i := 3) sc_double_value.nd rfl (.inl rfl)) (pgs_cons (pg_name (i := 4) sc_double_value.nd rfl (.inl rfl)) (pgs_cons (pg_name (i := 5) sc_double_value.nd rfl (.inl rfl)) pgs_nil)))))
    (pss_one (ps_ret (pe_op op_add (pe_op op_add (pe_op op_mulW (pe_op op_mulW (pv 3) (pv 1)) (pv 1)) (pe_op op_mulW (pe_op op_mulW (pv 4) (pv 1)) (pv 2))) (pe_op op_mulW (pe_op op_mulW (pv 5) (pv 2)) (pv 2)))))), ?_⟩
    refine ⟨_, rfl, unI3 ht ?_⟩
    exact ⟨_, rfl, _, rfl, _, _, rfl, rfl, mulB (by with_reducible assumption) (by with_reducible assumption) (by decide), _, rfl, _, _, rfl, rfl, mulB (B.mul (by with_reducible assumption) (by with_reducible assumption)) (by with_reducible assumption) (by decide), _, rfl, _, rfl, _, _, rfl, rfl, mulB (by with_reducible assumption) (by with_reducible assumption) (by decide), _, rfl, _, _, rfl, rfl, mulB (B.mul (by with_reducible assumption) (by with_reducible assumption)) (by with_reducible assumption) (by decide), _, _, rfl, rfl, _, rfl, _, rfl, _, _, rfl, rfl, mulB (by with_reducible assumption) (by with_reducible assumption) (by decide), _, rfl, _, _, rfl, rfl, mulB (B.mul (by with_reducible assumption) (by with_reducible assumption)) (by with_reducible assumption) (by decide), _, _, rfl, rfl, q⟩
theorem ok_double_discriminant (T : Txt K mg C_Form C_Double) : Def P w K mg base 1 "double_discriminant" ["coefficients"] (sp_double_discriminant K C_Form C_Double) := by
  obtain ⟨f_, fd_, g_, F_⟩ := T.d_double_discriminant
  refine ⟨f_, fd_, g_, F_.kp, F_.binds (ps := ["coefficients"]) (fun _ _ _ _ _ _ us hl => match us, hl with | [_], _ => rfl), ?_⟩
  refine F_.ok sc_double_discriminant (fun vs H Q E h => ?_) (fun cdv A outer s H vs Q E hr h => ?_)
  · first | (obtain ⟨rfl, _⟩ := h; rfl) | (obtain ⟨_, rfl, _⟩ := h; rfl) | (obtain ⟨_, _, rfl, _⟩ := h; rfl) | (obtain ⟨_, _, _, rfl, _⟩ := h; rfl) | (obtain ⟨_, _, _, _, rfl, _⟩ := h; rfl) | (obtain ⟨_, _, _, _, _, rfl, _⟩ := h; rfl) | (obtain ⟨_, _, _, _, _, _, rfl, _⟩ := h; rfl) | (obtain ⟨_, _, _, _, _, _, _, rfl, _⟩ := h; rfl) | (obtain ⟨_, _, _, _, _, _, _, _, rfl, _⟩ := h; rfl) | (obtain ⟨_, _, _, _, _, _, _, _, _, rfl, _⟩ := h; rfl) | (obtain ⟨_, _, _, _, _, _, _, _, _, _, rfl, _⟩ := h; rfl) | (obtain ⟨_, _, _, _, _, _, _, _, _, _, _, rfl, _⟩ := h; rfl) | (obtain ⟨_, _, _, _, _, _, _, _, _, _, _, _, rfl, _⟩ := h; rfl) | (obtain ⟨_, _, _, _, _, _, _, _, _, _, _, _, _, rfl, _⟩ := h; rfl) | (obtain ⟨_, _, _, _, _, _, _, _, _, _, _, _, _, _, rfl, _⟩ := h; rfl) | (obtain ⟨_, _, _, _, _, _, _, _, _, _, _, _, _, _, _, rfl, _⟩ := h; rfl) | (obtain ⟨_, _, _, _, _, _, _, _, _, _, _, _, _, _, _, _, rfl, _⟩ := h; rfl) | (obtain ⟨_, _, _, _, _, _, _, _, _, _, _, _, _, _, _, _, _, rfl, _⟩ := h; rfl) | (obtain ⟨_, _, _, _, _, _, _, _, _, _, _, _, _, _, _, _, _, _, rfl, _⟩ := h; rfl) | (obtain ⟨_, _, _, _, _, _, _, _, _, _, _, _, _, _, _, _, _, _, _, rfl, _⟩ := h; rfl) | (obtain ⟨_, _, _, _, _, _, _, _, _, _, _, _, _, _, _, _, _, _, _, _, rfl, _⟩ := h; rfl) | (obtain ⟨_, _, _, _, _, _, _, _, _, _, _, _, _, _, _, _, _, _, _, _, _, rfl, _⟩ := h; rfl) | (obtain ⟨_, _, _, _, _, _, _, _, _, _, _, _, _, _, _, _, _, _, _, _, _, _, rfl, _⟩ := h; rfl) | (obtain ⟨_, _, _, _, _, _, _, _, _, _, _, _, _, _, _, _, _, _, _, _, _, _, _, rfl, _⟩ := h; rfl)
  · obtain ⟨t, a, b, c, rfl, ht, ba, bb, bc, q⟩ := h
    refine ⟨_, (pss_cons (ps_asg (pv 0) (pg_tup (by rfl) (pgs_cons (pg_name (i := 1) sc_double_discriminant.nd rfl (.inl rfl)) (pgs_cons (pg_name (i := 2) sc_double_discriminant.nd rfl (.inl rfl)) (pgs_cons (pg_name (i := 3) sc_double_discriminant.nd rfl (.inl rfl)) pgs_nil)))))
    (pss_one (ps_ret (pe_op op_sub (pe_op op_mulW (pv 2) (pv 2)) (pe_op op_mulW (pe_op op_mulW pe_int (pv 1)) (pv 3)))))), ?_⟩
    refine ⟨_, rfl, unI3 ht ?_⟩
    exact ⟨_, rfl, _, rfl, _, _, rfl, rfl, mulB (by with_reducible assumption) (by with_reducible assumption) (by decide), _, rfl, _, _, rfl, rfl, mulB (B.lit (by decide)) (by with_reducible assumption) (by decide), _, rfl, _, _, rfl, rfl, mulB (B.mul (B.lit (by decide)) (by with_reducible assumption)) (by with_reducible assumption) (by decide), _, _, rfl, rfl, q⟩
theorem ok_form_hessian (T : Txt K mg C_Form C_Double) : Def P w K mg base 1 "form_hessian" ["coefficients"] (sp_form_hessian K C_Form C_Double) := by
  obtain ⟨f_, fd_, g_, F_⟩ := T.d_form_hessian
  refine ⟨f_, fd_, g_, F_.kp, F_.binds (ps := ["coefficients"]) (fun _ _ _ _ _ _ us hl => match us, hl with | [_], _ => rfl), ?_⟩
  refine F_.ok sc_form_hessian (fun vs H Q E h => ?_) (fun cdv A outer s H vs Q E hr h => ?_)
  · first | (obtain ⟨rfl, _⟩ := h; rfl) | (obtain ⟨_, rfl, _⟩ := h; rfl) | (obtain ⟨_, _, rfl, _⟩ := h; rfl) | (obtain ⟨_, _, _, rfl, _⟩ := h; rfl) | (obtain ⟨_, _, _, _, rfl, _⟩ := h; rfl) | (obtain ⟨_, _, _, _, _, rfl, _⟩ := h; rfl) | (obtain ⟨_, _, _, _, _, _, rfl, _⟩ := h; rfl) | (obtain ⟨_, _, _, _, _, _, _, rfl, _⟩ := h; rfl) | (obtain ⟨_, _, _, _, _, _, _, _, rfl, _⟩ := h; rfl) | (obtain ⟨_, _, _, _, _, _, _, _, _, rfl, _⟩ := h; rfl) | (obtain ⟨_, _, _, _, _, _, _, _, _, _, rfl, _⟩ := h; rfl) | (obtain ⟨_, _, _, _, _, _, _, _, _, _, _, rfl, _⟩ := h; rfl) | (obtain ⟨_, _, _, _, _, _, _, _, _, _, _, _, rfl, _⟩ := h; rfl) | (obtain ⟨_, _, _, _, _, _, _, _, _, _, _, _, _, rfl, _⟩ := h; rfl) | (obtain ⟨_, _, _, _, _, _, _, _, _, _, _, _, _, _, rfl, _⟩ := h; rfl) | (obtain ⟨_, _, _, _, _, _, _, _, _, _, _, _, _, _, _, rfl, _⟩ := h; rfl) | (obtain ⟨_, _, _, _, _, _, _, _, _, _, _, _, _, _, _, _, rfl, _⟩ := h; rfl) | (obtain ⟨_, _, _, _, _, _, _, _, _, _, _, _, _, _, _, _, _, rfl, _⟩ := h; rfl) | (obtain ⟨_, _, _, _, _, _, _, _, _, _, _, _, _, _, _, _, _, _, rfl, _⟩ := h; rfl) | (obtain ⟨_, _, _, _, _, _, _, _, _, _, _, _, _, _, _, _, _, _, _, rfl, _⟩ := h; rfl) | (obtain ⟨_, _, _, _, _, _, _, _, _, _, _, _, _, _, _, _, _, _, _, _, rfl, _⟩ := h; rfl) | (obtain ⟨_, _, _, _, _, _, _, _, _, _, _, _, _, _, _, _, _, _, _, _, _, rfl, _⟩ := h; rfl) | (obtain ⟨_, _, _, _, _, _, _, _, _, _, _, _, _, _, _, _, _, _, _, _, _, _, rfl, _⟩ := h; rfl) | (obtain ⟨_, _, _, _, _, _, _, _, _, _, _, _, _, _, _, _, _, _, _, _, _, _, _, rfl, _⟩ := h; rfl)
  · obtain ⟨t, a, b, c, d, rfl, ht, ba, bb, bc, bd, q⟩ := h
    refine ⟨_, (pss_cons (ps_asg (pv 0) (pg_tup (by rfl) (pgs_cons (pg_name (i := 1) sc_form_hessian.nd rfl (.inl rfl)) (pgs_cons (pg_name (i := 2) sc_form_hessian.nd rfl (.inl rfl)) (pgs_cons (pg_name (i := 3) sc_form_hessian.nd rfl (.inl rfl)) (pgs_cons (pg_name (i := 4) sc_form_hessian.nd rfl (.inl rfl)) pgs_nil))))))
    (pss_one (ps_ret (pe_tup (pa_cons (pe_op op_sub (pe_op op_mulW (pv 2) (pv 2)) (pe_op op_mulW (pe_op op_mulW pe_int (pv 1)) (pv 3))) (pa_cons (pe_op op_sub (pe_op op_mulW (pv 2) (pv 3)) (pe_op op_mulW (pe_op op_mulW pe_int (pv 1)) (pv 4))) (pa_cons (pe_op op_sub (pe_op op_mulW (pv 3) (pv 3)) (pe_op op_mulW (pe_op op_mulW pe_int (pv 2)) (pv 4))) pa_nil))))))), ?_⟩
    refine ⟨_, rfl, unI4 ht ?_⟩
    exact ⟨_, rfl, _, rfl, _, _, rfl, rfl, mulB (by with_reducible assumption) (by with_reducible assumption) (by decide), _, rfl, _, _, rfl, rfl, mulB (B.lit (by decide)) (by with_reducible assumption) (by decide), _, rfl, _, _, rfl, rfl, mulB (B.mul (B.lit (by decide)) (by with_reducible assumption)) (by with_reducible assumption) (by decide), _, _, rfl, rfl, _, rfl, _, rfl, _, _, rfl, rfl, mulB (by with_reducible assumption) (by with_reducible assumption) (by decide), _, rfl, _, _, rfl, rfl, mulB (B.lit (by decide)) (by with_reducible assumption) (by decide), _, rfl, _, _, rfl, rfl, mulB (B.mul (B.lit (by decide)) (by with_reducible assumption)) (by with_reducible assumption) (by decide), _, _, rfl, rfl, _, rfl, _, rfl, _, _, rfl, rfl, mulB (by with_reducible assumption) (by with_reducible assumption) (by decide), _, rfl, _, _, rfl, rfl, mulB (B.lit (by decide)) (by with_reducible assumption) (by decide), _, rfl, _, _, rfl, rfl, mulB (B.mul (B.lit (by decide)) (by with_reducible assumption)) (by with_reducible assumption) (by decide), _, _, rfl, rfl, sl3, fun x nx => q x _ (Ex0.new nx) upd_same⟩
end
end TF
namespace TF
open PySem PySem.Spec PyProof.Rows L2 Fr
open K05M (fv fl2 fl3 fdisc)
open K06M
theorem putF_same {u v : V} : putF ("_coefficients" : Str) v [(("_coefficients" : Str), u)] = [(("_coefficients" : Str), v)] := by simp [putF]
theorem lk_same {u : V} : List.lookup ("_coefficients" : Str) [(("_coefficients" : Str), u)] = some u := by simp [List.lookup]
section
variable {P : Program} {w : World} {K : PySem.W.Frag} {mg : Str → Option Value} {base : Heap} {C_Form C_Double : Addr}
theorem ok_form_led (T : Txt K mg C_Form C_Double) : Def P w K mg base 2 "form_led" ["coefficients", "change"] (sp_form_led K C_Form C_Double) := by
  obtain ⟨f_, fd_, g_, F_⟩ := T.d_form_led
  obtain ⟨f_determinant_of, fd_determinant_of, g_determinant_of, k_determinant_of, b_determinant_of, G_determinant_of⟩ := (ok_determinant_of (P := P) (w := w) (base := base) T)
  obtain ⟨f_form_value, fd_form_value, g_form_value, k_form_value, b_form_value, G_form_value⟩ := (ok_form_value (P := P) (w := w) (base := base) T)
  refine ⟨f_, fd_, g_, F_.kp, F_.binds (ps := ["coefficients", "change"]) (fun _ _ _ _ _ _ us hl => match us, hl with | [_, _], _ => rfl), ?_⟩
  refine F_.ok sc_form_led (fun vs H Q E h => ?_) (fun cdv A outer s H vs Q E hr h => ?_)
  · first | (obtain ⟨rfl, _⟩ := h; rfl) | (obtain ⟨_, rfl, _⟩ := h; rfl) | (obtain ⟨_, _, rfl, _⟩ := h; rfl) | (obtain ⟨_, _, _, rfl, _⟩ := h; rfl) | (obtain ⟨_, _, _, _, rfl, _⟩ := h; rfl) | (obtain ⟨_, _, _, _, _, rfl, _⟩ := h; rfl) | (obtain ⟨_, _, _, _, _, _, rfl, _⟩ := h; rfl) | (obtain ⟨_, _, _, _, _, _, _, rfl, _⟩ := h; rfl) | (obtain ⟨_, _, _, _, _, _, _, _, rfl, _⟩ := h; rfl) | (obtain ⟨_, _, _, _, _, _, _, _, _, rfl, _⟩ := h; rfl) | (obtain ⟨_, _, _, _, _, _, _, _, _, _, rfl, _⟩ := h; rfl) | (obtain ⟨_, _, _, _, _, _, _, _, _, _, _, rfl, _⟩ := h; rfl) | (obtain ⟨_, _, _, _, _, _, _, _, _, _, _, _, rfl, _⟩ := h; rfl) | (obtain ⟨_, _, _, _, _, _, _, _, _, _, _, _, _, rfl, _⟩ := h; rfl) | (obtain ⟨_, _, _, _, _, _, _, _, _, _, _, _, _, _, rfl, _⟩ := h; rfl) | (obtain ⟨_, _, _, _, _, _, _, _, _, _, _, _, _, _, _, rfl, _⟩ := h; rfl) | (obtain ⟨_, _, _, _, _, _, _, _, _, _, _, _, _, _, _, _, rfl, _⟩ := h; rfl) | (obtain ⟨_, _, _, _, _, _, _, _, _, _, _, _, _, _, _, _, _, rfl, _⟩ := h; rfl) | (obtain ⟨_, _, _, _, _, _, _, _, _, _, _, _, _, _, _, _, _, _, rfl, _⟩ := h; rfl) | (obtain ⟨_, _, _, _, _, _, _, _, _, _, _, _, _, _, _, _, _, _, _, rfl, _⟩ := h; rfl) | (obtain ⟨_, _, _, _, _, _, _, _, _, _, _, _, _, _, _, _, _, _, _, _, rfl, _⟩ := h; rfl) | (obtain ⟨_, _, _, _, _, _, _, _, _, _, _, _, _, _, _, _, _, _, _, _, _, rfl, _⟩ := h; rfl) | (obtain ⟨_, _, _, _, _, _, _, _, _, _, _, _, _, _, _, _, _, _, _, _, _, _, rfl, _⟩ := h; rfl) | (obtain ⟨_, _, _, _, _, _, _, _, _, _, _, _, _, _, _, _, _, _, _, _, _, _, _, rfl, _⟩ := h; rfl)
  · obtain ⟨t, u, a, b, c, d, p, q', r, s', rfl, ht, h4, ba, bb, bc, bd, bp, bq, br, bs, q⟩ := h
    refine ⟨_, (pss_cons (ps_asg (pv 0) (pg_tup (by rfl) (pgs_cons (pg_name (i := 2) sc_form_led.nd rfl (.inl rfl)) (pgs_cons (pg_name (i := 3) sc_form_led.nd rfl (.inl rfl)) (pgs_cons (pg_name (i := 4) sc_form_led.nd rfl (.inl rfl)) (pgs_cons (pg_name (i := 5) sc_form_led.nd rfl (.inl rfl)) pgs_nil))))))
    (pss_cons (ps_asg (pv 1) (pg_tup (by rfl) (pgs_cons (pg_tup (by rfl) (pgs_cons (pg_name (i := 6) sc_form_led.nd rfl (.inl rfl)) (pgs_cons (pg_name (i := 7) sc_form_led.nd rfl (.inl rfl)) pgs_nil))) (pgs_cons (pg_tup (by rfl) (pgs_cons (pg_name (i := 8) sc_form_led.nd rfl (.inl rfl)) (pgs_cons (pg_name (i := 9) sc_form_led.nd rfl (.inl rfl)) pgs_nil))) pgs_nil))))
    (pss_cons (ps_set (i := 10) sc_form_led.nd rfl (.inl rfl) (pe_call G_determinant_of (hr.mono (by decide)) (by rfl) g_determinant_of k_determinant_of b_determinant_of .nil pass0 (pa_cons (pv 1) pa_nil)))
    (pss_cons (ps_set (i := 11) sc_form_led.nd rfl (.inl rfl) (pe_op op_add (pe_op op_add (pe_op op_add (pe_op op_mulW (pe_op op_mulW (pe_op op_mulW (pe_op op_mulW pe_int (pv 2)) (pv 6)) (pv 6)) (pv 8)) (pe_op op_mulW (pe_op op_mulW (pv 3) (pv 6)) (pe_op op_add (pe_op op_mulW (pv 6) (pv 9)) (pe_op op_mulW (pe_op op_mulW pe_int (pv 7)) (pv 8))))) (pe_op op_mulW (pe_op op_mulW (pv 4) (pv 7)) (pe_op op_add (pe_op op_mulW (pe_op op_mulW pe_int (pv 6)) (pv 9)) (pe_op op_mulW (pv 7) (pv 8))))) (pe_op op_mulW (pe_op op_mulW (pe_op op_mulW (pe_op op_mulW pe_int (pv 5)) (pv 7)) (pv 7)) (pv 9))))
    (pss_cons (ps_set (i := 12) sc_form_led.nd rfl (.inl rfl) (pe_op op_add (pe_op op_add (pe_op op_add (pe_op op_mulW (pe_op op_mulW (pe_op op_mulW (pe_op op_mulW pe_int (pv 2)) (pv 6)) (pv 8)) (pv 8)) (pe_op op_mulW (pe_op op_mulW (pv 3) (pv 8)) (pe_op op_add (pe_op op_mulW (pe_op op_mulW pe_int (pv 6)) (pv 9)) (pe_op op_mulW (pv 7) (pv 8))))) (pe_op op_mulW (pe_op op_mulW (pv 4) (pv 9)) (pe_op op_add (pe_op op_mulW (pv 6) (pv 9)) (pe_op op_mulW (pe_op op_mulW pe_int (pv 7)) (pv 8))))) (pe_op op_mulW (pe_op op_mulW (pe_op op_mulW (pe_op op_mulW pe_int (pv 5)) (pv 7)) (pv 9)) (pv 9))))
    (pss_one (ps_ret (pe_tup (pa_cons (pe_op op_mulW (pv 10) (pe_call G_form_value (hr.mono (by decide)) (by rfl) g_form_value k_form_value b_form_value .nil pass0 (pa_cons (pv 0) (pa_cons (pv 6) (pa_cons (pv 7) pa_nil))))) (pa_cons (pe_op op_mulW (pv 10) (pv 11)) (pa_cons (pe_op op_mulW (pv 10) (pv 12)) (pa_cons (pe_op op_mulW (pv 10) (pe_call G_form_value (hr.mono (by decide)) (by rfl) g_form_value k_form_value b_form_value .nil pass0 (pa_cons (pv 0) (pa_cons (pv 8) (pa_cons (pv 9) pa_nil))))) pa_nil)))))))))))), ?_⟩
    refine ⟨_, rfl, unI4 ht ?_⟩
    refine ⟨_, rfl, un4 h4 ?_⟩
    refine ⟨_, rfl, u, p, q', r, s', rfl, h4, bp, bq, br, bs, ?_⟩
    refine ⟨_, rfl, _, _, rfl, rfl, mulB (B.lit (by decide)) (by with_reducible assumption) (by decide), _, rfl, _, _, rfl, rfl, mulB (B.mul (B.lit (by decide)) (by with_reducible assumption)) (by with_reducible assumption) (by decide), _, rfl, _, _, rfl, rfl, mulB (B.mul (B.mul (B.lit (by decide)) (by with_reducible assumption)) (by with_reducible assumption)) (by with_reducible assumption) (by decide), _, rfl, _, _, rfl, rfl, mulB (B.mul (B.mul (B.mul (B.lit (by decide)) (by with_reducible assumption)) (by with_reducible assumption)) (by with_reducible assumption)) (by with_reducible assumption) (by decide), _, rfl, _, rfl, _, _, rfl, rfl, mulB (by with_reducible assumption) (by with_reducible assumption) (by decide), _, rfl, _, rfl, _, _, rfl, rfl, mulB (by with_reducible assumption) (by with_reducible assumption) (by decide), _, rfl, _, _, rfl, rfl, mulB (B.lit (by decide)) (by with_reducible assumption) (by decide), _, rfl, _, _, rfl, rfl, mulB (B.mul (B.lit (by decide)) (by with_reducible assumption)) (by with_reducible assumption) (by decide), _, _, rfl, rfl, _, _, rfl, rfl, mulB (B.mul (by with_reducible assumption) (by with_reducible assumption)) (B.add (B.mul (by with_reducible assumption) (by with_reducible assumption)) (B.mul (B.mul (B.lit (by decide)) (by with_reducible assumption)) (by with_reducible assumption))) (by decide), _, _, rfl, rfl, _, rfl, _, rfl, _, _, rfl, rfl, mulB (by with_reducible assumption) (by with_reducible assumption) (by decide), _, rfl, _, _, rfl, rfl, mulB (B.lit (by decide)) (by with_reducible assumption) (by decide), _, rfl, _, _, rfl, rfl, mulB (B.mul (B.lit (by decide)) (by with_reducible assumption)) (by with_reducible assumption) (by decide), _, rfl, _, rfl, _, _, rfl, rfl, mulB (by with_reducible assumption) (by with_reducible assumption) (by decide), _, _, rfl, rfl, _, _, rfl, rfl, mulB (B.mul (by with_reducible assumption) (by with_reducible assumption)) (B.add (B.mul (B.mul (B.lit (by decide)) (by with_reducible assumption)) (by with_reducible assumption)) (B.mul (by with_reducible assumption) (by with_reducible assumption))) (by decide), _, _, rfl, rfl, _, rfl, _, _, rfl, rfl, mulB (B.lit (by decide)) (by with_reducible assumption) (by decide), _, rfl, _, _, rfl, rfl, mulB (B.mul (B.lit (by decide)) (by with_reducible assumption)) (by with_reducible assumption) (by decide), _, rfl, _, _, rfl, rfl, mulB (B.mul (B.mul (B.lit (by decide)) (by with_reducible assumption)) (by with_reducible assumption)) (by with_reducible assumption) (by decide), _, rfl, _, _, rfl, rfl, mulB (B.mul (B.mul (B.mul (B.lit (by decide)) (by with_reducible assumption)) (by with_reducible assumption)) (by with_reducible assumption)) (by with_reducible assumption) (by decide), _, _, rfl, rfl, ?_⟩
    refine ⟨_, rfl, _, _, rfl, rfl, mulB (B.lit (by decide)) (by with_reducible assumption) (by decide), _, rfl, _, _, rfl, rfl, mulB (B.mul (B.lit (by decide)) (by with_reducible assumption)) (by with_reducible assumption) (by decide), _, rfl, _, _, rfl, rfl, mulB (B.mul (B.mul (B.lit (by decide)) (by with_reducible assumption)) (by with_reducible assumption)) (by with_reducible assumption) (by decide), _, rfl, _, _, rfl, rfl, mulB (B.mul (B.mul (B.mul (B.lit (by decide)) (by with_reducible assumption)) (by with_reducible assumption)) (by with_reducible assumption)) (by with_reducible assumption) (by decide), _, rfl, _, rfl, _, _, rfl, rfl, mulB (by with_reducible assumption) (by with_reducible assumption) (by decide), _, rfl, _, _, rfl, rfl, mulB (B.lit (by decide)) (by with_reducible assumption) (by decide), _, rfl, _, _, rfl, rfl, mulB (B.mul (B.lit (by decide)) (by with_reducible assumption)) (by with_reducible assumption) (by decide), _, rfl, _, rfl, _, _, rfl, rfl, mulB (by with_reducible assumption) (by with_reducible assumption) (by decide), _, _, rfl, rfl, _, _, rfl, rfl, mulB (B.mul (by with_reducible assumption) (by with_reducible assumption)) (B.add (B.mul (B.mul (B.lit (by decide)) (by with_reducible assumption)) (by with_reducible assumption)) (B.mul (by with_reducible assumption) (by with_reducible assumption))) (by decide), _, _, rfl, rfl, _, rfl, _, rfl, _, _, rfl, rfl, mulB (by with_reducible assumption) (by with_reducible assumption) (by decide), _, rfl, _, rfl, _, _, rfl, rfl, mulB (by with_reducible assumption) (by with_reducible assumption) (by decide), _, rfl, _, _, rfl, rfl, mulB (B.lit (by decide)) (by with_reducible assumption) (by decide), _, rfl, _, _, rfl, rfl, mulB (B.mul (B.lit (by decide)) (by with_reducible assumption)) (by with_reducible assumption) (by decide), _, _, rfl, rfl, _, _, rfl, rfl, mulB (B.mul (by with_reducible assumption) (by with_reducible assumption)) (B.add (B.mul (by with_reducible assumption) (by with_reducible assumption)) (B.mul (B.mul (B.lit (by decide)) (by with_reducible assumption)) (by with_reducible assumption))) (by decide), _, _, rfl, rfl, _, rfl, _, _, rfl, rfl, mulB (B.lit (by decide)) (by with_reducible assumption) (by decide), _, rfl, _, _, rfl, rfl, mulB (B.mul (B.lit (by decide)) (by with_reducible assumption)) (by with_reducible assumption) (by decide), _, rfl, _, _, rfl, rfl, mulB (B.mul (B.mul (B.lit (by decide)) (by with_reducible assumption)) (by with_reducible assumption)) (by with_reducible assumption) (by decide), _, rfl, _, _, rfl, rfl, mulB (B.mul (B.mul (B.mul (B.lit (by decide)) (by with_reducible assumption)) (by with_reducible assumption)) (by with_reducible assumption)) (by with_reducible assumption) (by decide), _, _, rfl, rfl, ?_⟩
    have be : B 800 (p * s' - q' * r) := B.sub (B.mul bp bs) (B.mul bq br)
    have b2 : B _ (3 * a * p * p * r + b * p * (p * s' + 2 * q' * r) + c * q' * (2 * p * s' + q' * r) + 3 * d * q' * q' * s') := (B.add (B.add (B.add (B.mul (B.mul (B.mul (B.mul (B.lit (by decide)) (by with_reducible assumption)) (by with_reducible assumption)) (by with_reducible assumption)) (by with_reducible assumption)) (B.mul (B.mul (by with_reducible assumption) (by with_reducible assumption)) (B.add (B.mul (by with_reducible assumption) (by with_reducible assumption)) (B.mul (B.mul (B.lit (by decide)) (by with_reducible assumption)) (by with_reducible assumption))))) (B.mul (B.mul (by with_reducible assumption) (by with_reducible assumption)) (B.add (B.mul (B.mul (B.lit (by decide)) (by with_reducible assumption)) (by with_reducible assumption)) (B.mul (by with_reducible assumption) (by with_reducible assumption))))) (B.mul (B.mul (B.mul (B.mul (B.lit (by decide)) (by with_reducible assumption)) (by with_reducible assumption)) (by with_reducible assumption)) (by with_reducible assumption)))
    have b3 : B _ (3 * a * p * r * r + b * r * (2 * p * s' + q' * r) + c * s' * (p * s' + 2 * q' * r) + 3 * d * q' * s' * s') := (B.add (B.add (B.add (B.mul (B.mul (B.mul (B.mul (B.lit (by decide)) (by with_reducible assumption)) (by with_reducible assumption)) (by with_reducible assumption)) (by with_reducible assumption)) (B.mul (B.mul (by with_reducible assumption) (by with_reducible assumption)) (B.add (B.mul (B.mul (B.lit (by decide)) (by with_reducible assumption)) (by with_reducible assumption)) (B.mul (by with_reducible assumption) (by with_reducible assumption))))) (B.mul (B.mul (by with_reducible assumption) (by with_reducible assumption)) (B.add (B.mul (by with_reducible assumption) (by with_reducible assumption)) (B.mul (B.mul (B.lit (by decide)) (by with_reducible assumption)) (by with_reducible assumption))))) (B.mul (B.mul (B.mul (B.mul (B.lit (by decide)) (by with_reducible assumption)) (by with_reducible assumption)) (by with_reducible assumption)) (by with_reducible assumption)))
    have f1 : B 6400 (fv a b c d p q') := B.add (B.add (B.add (B.mul (B.mul (B.mul ba bp) bp) bp) (B.mul (B.mul (B.mul bb bp) bp) bq)) (B.mul (B.mul (B.mul bc bp) bq) bq)) (B.mul (B.mul (B.mul bd bq) bq) bq)
    have f2 : B 6400 (fv a b c d r s') := B.add (B.add (B.add (B.mul (B.mul (B.mul ba br) br) br) (B.mul (B.mul (B.mul bb br) br) bs)) (B.mul (B.mul (B.mul bc br) bs) bs)) (B.mul (B.mul (B.mul bd bs) bs) bs)
    refine ⟨_, rfl, _, rfl, _, rfl, _, rfl, t, a, b, c, d, p, q', rfl, ht, ba, bb, bc, bd, bp, bq, _, _, rfl, rfl, mulB be f1 (by decide), ?_⟩
    refine ⟨_, rfl, _, rfl, _, _, rfl, rfl, mulB be b2 (by decide), _, rfl, _, rfl, _, _, rfl, rfl, mulB be b3 (by decide), ?_⟩
    refine ⟨_, rfl, _, rfl, _, rfl, _, rfl, t, a, b, c, d, r, s', rfl, ht, ba, bb, bc, bd, br, bs, _, _, rfl, rfl, mulB be f2 (by decide), sl4, fun x nx => ?_⟩
    exact q x _ (Ex0.new nx) upd_same
theorem ok_Form___init__ (T : Txt K mg C_Form C_Double) : MDef (fun p f => Mk K C_Form f) P w K mg base 4 ["self", "coefficients"] (sp_Form___init__ K C_Form C_Double) := by
  obtain ⟨p_, f_, fd_, R_, F_⟩ := T.e_Form___init__
  obtain ⟨f_are_short_integers, fd_are_short_integers, g_are_short_integers, k_are_short_integers, b_are_short_integers, G_are_short_integers⟩ := (ok_are_short_integers (P := P) (w := w) (base := base) T)
  refine ⟨p_, f_, fd_, R_, F_.binds (ps := ["self", "coefficients"]) (fun _ _ _ _ _ _ us hl => match us, hl with | [_, _], _ => rfl), ?_⟩
  refine F_.ok sc_Form___init__ (fun vs H Q E h => ?_) (fun cdv A outer s H vs Q E hr h => ?_)
  · first | (obtain ⟨rfl, _⟩ := h; rfl) | (obtain ⟨_, rfl, _⟩ := h; rfl) | (obtain ⟨_, _, rfl, _⟩ := h; rfl) | (obtain ⟨_, _, _, rfl, _⟩ := h; rfl) | (obtain ⟨_, _, _, _, rfl, _⟩ := h; rfl) | (obtain ⟨_, _, _, _, _, rfl, _⟩ := h; rfl) | (obtain ⟨_, _, _, _, _, _, rfl, _⟩ := h; rfl) | (obtain ⟨_, _, _, _, _, _, _, rfl, _⟩ := h; rfl) | (obtain ⟨_, _, _, _, _, _, _, _, rfl, _⟩ := h; rfl) | (obtain ⟨_, _, _, _, _, _, _, _, _, rfl, _⟩ := h; rfl) | (obtain ⟨_, _, _, _, _, _, _, _, _, _, rfl, _⟩ := h; rfl) | (obtain ⟨_, _, _, _, _, _, _, _, _, _, _, rfl, _⟩ := h; rfl) | (obtain ⟨_, _, _, _, _, _, _, _, _, _, _, _, rfl, _⟩ := h; rfl) | (obtain ⟨_, _, _, _, _, _, _, _, _, _, _, _, _, rfl, _⟩ := h; rfl) | (obtain ⟨_, _, _, _, _, _, _, _, _, _, _, _, _, _, rfl, _⟩ := h; rfl) | (obtain ⟨_, _, _, _, _, _, _, _, _, _, _, _, _, _, _, rfl, _⟩ := h; rfl) | (obtain ⟨_, _, _, _, _, _, _, _, _, _, _, _, _, _, _, _, rfl, _⟩ := h; rfl) | (obtain ⟨_, _, _, _, _, _, _, _, _, _, _, _, _, _, _, _, _, rfl, _⟩ := h; rfl) | (obtain ⟨_, _, _, _, _, _, _, _, _, _, _, _, _, _, _, _, _, _, rfl, _⟩ := h; rfl) | (obtain ⟨_, _, _, _, _, _, _, _, _, _, _, _, _, _, _, _, _, _, _, rfl, _⟩ := h; rfl) | (obtain ⟨_, _, _, _, _, _, _, _, _, _, _, _, _, _, _, _, _, _, _, _, rfl, _⟩ := h; rfl) | (obtain ⟨_, _, _, _, _, _, _, _, _, _, _, _, _, _, _, _, _, _, _, _, _, rfl, _⟩ := h; rfl) | (obtain ⟨_, _, _, _, _, _, _, _, _, _, _, _, _, _, _, _, _, _, _, _, _, _, rfl, _⟩ := h; rfl) | (obtain ⟨_, _, _, _, _, _, _, _, _, _, _, _, _, _, _, _, _, _, _, _, _, _, _, rfl, _⟩ := h; rfl)
  · obtain ⟨x, dx, t, ns, rfl, hx, ht, hl, hs, q⟩ := h
    refine ⟨_, (pss_cons (ps_if (pt_not (pt_val (pe_call G_are_short_integers (hr.mono (by decide)) (by rfl) g_are_short_integers k_are_short_integers b_are_short_integers .nil pass0 (pa_cons (pv 1) (pa_cons pe_int pa_nil)))))
      pss_never
      pss_nil)
    (pss_one (ps_fld (pv 0) (pe_callTy call_tuple_of (by rfl) T.b_tuple (by decide +kernel) (pa_cons (pv 1) pa_nil)) (by rfl)))), ?_⟩
    refine ⟨_, rfl, t, ns, by rw [hl]; rfl, ht, by omega, hs, fun H1 e1 => ⟨_, rfl, ?_⟩⟩
    refine iteF ⟨_, rfl, t, _, rfl, .inr ⟨SqT.of (Ex0.ti e1 ht), ?_⟩⟩
    refine ⟨_, rfl, x, C_Form, dx, _, rfl, e1.ap hx, T.cl_Form, T.na_Form_coefficients, (by decide : (0:Nat) < 1000), ?_⟩
    exact q _ (fun b o n e => by rw [upd_ne n]; exact e1.ap e) upd_same
theorem ok_form_of (T : Txt K mg C_Form C_Double) : Def P w K mg base 6 "form_of" ["coefficients"] (sp_form_of K C_Form C_Double) := by
  obtain ⟨f_, fd_, g_, F_⟩ := T.d_form_of
  obtain ⟨p_Form___init__, f_Form___init__, fd_Form___init__, R_Form___init__, b_Form___init__, G_Form___init__⟩ := (ok_Form___init__ (P := P) (w := w) (base := base) T)
  refine ⟨f_, fd_, g_, F_.kp, F_.binds (ps := ["coefficients"]) (fun _ _ _ _ _ _ us hl => match us, hl with | [_], _ => rfl), ?_⟩
  refine F_.ok sc_form_of (fun vs H Q E h => ?_) (fun cdv A outer s H vs Q E hr h => ?_)
  · first | (obtain ⟨rfl, _⟩ := h; rfl) | (obtain ⟨_, rfl, _⟩ := h; rfl) | (obtain ⟨_, _, rfl, _⟩ := h; rfl) | (obtain ⟨_, _, _, rfl, _⟩ := h; rfl) | (obtain ⟨_, _, _, _, rfl, _⟩ := h; rfl) | (obtain ⟨_, _, _, _, _, rfl, _⟩ := h; rfl) | (obtain ⟨_, _, _, _, _, _, rfl, _⟩ := h; rfl) | (obtain ⟨_, _, _, _, _, _, _, rfl, _⟩ := h; rfl) | (obtain ⟨_, _, _, _, _, _, _, _, rfl, _⟩ := h; rfl) | (obtain ⟨_, _, _, _, _, _, _, _, _, rfl, _⟩ := h; rfl) | (obtain ⟨_, _, _, _, _, _, _, _, _, _, rfl, _⟩ := h; rfl) | (obtain ⟨_, _, _, _, _, _, _, _, _, _, _, rfl, _⟩ := h; rfl) | (obtain ⟨_, _, _, _, _, _, _, _, _, _, _, _, rfl, _⟩ := h; rfl) | (obtain ⟨_, _, _, _, _, _, _, _, _, _, _, _, _, rfl, _⟩ := h; rfl) | (obtain ⟨_, _, _, _, _, _, _, _, _, _, _, _, _, _, rfl, _⟩ := h; rfl) | (obtain ⟨_, _, _, _, _, _, _, _, _, _, _, _, _, _, _, rfl, _⟩ := h; rfl) | (obtain ⟨_, _, _, _, _, _, _, _, _, _, _, _, _, _, _, _, rfl, _⟩ := h; rfl) | (obtain ⟨_, _, _, _, _, _, _, _, _, _, _, _, _, _, _, _, _, rfl, _⟩ := h; rfl) | (obtain ⟨_, _, _, _, _, _, _, _, _, _, _, _, _, _, _, _, _, _, rfl, _⟩ := h; rfl) | (obtain ⟨_, _, _, _, _, _, _, _, _, _, _, _, _, _, _, _, _, _, _, rfl, _⟩ := h; rfl) | (obtain ⟨_, _, _, _, _, _, _, _, _, _, _, _, _, _, _, _, _, _, _, _, rfl, _⟩ := h; rfl) | (obtain ⟨_, _, _, _, _, _, _, _, _, _, _, _, _, _, _, _, _, _, _, _, _, rfl, _⟩ := h; rfl) | (obtain ⟨_, _, _, _, _, _, _, _, _, _, _, _, _, _, _, _, _, _, _, _, _, _, rfl, _⟩ := h; rfl) | (obtain ⟨_, _, _, _, _, _, _, _, _, _, _, _, _, _, _, _, _, _, _, _, _, _, _, rfl, _⟩ := h; rfl)
  · obtain ⟨t, ns, rfl, ht, q⟩ := h
    refine ⟨_, (pss_cons (ps_set (i := 1) sc_form_of.nd rfl (.inl rfl) (pe_make R_Form___init__ G_Form___init__ (hr.mono (by decide)) (by rfl) T.g_Form b_Form___init__ .nil pass0 (pa_cons (pe_tup (pa_cons pe_int (pa_cons pe_int (pa_cons pe_int (pa_cons pe_int pa_nil))))) pa_nil)))
    (pss_cons (ps_fld (pv 1) (pv 0) (by rfl))
    (pss_one (ps_ret (pv 1))))), ?_⟩
    refine ⟨sl4, fun t0 n0 => ?_⟩
    intro x dx nx ndx ne
    have e0 : Ex0 H (upd H t0 (.tup [.int 0, .int 0, .int 0, .int 0])) := Ex0.new n0
    have hx0 : H x = none := Fx.free e0 (fun z => z) nx
    have hd0 : H dx = none := Fx.free e0 (fun z => z) ndx
    have nt : t0 ≠ x := ne_of_none (show upd H t0 (.tup [.int 0, .int 0, .int 0, .int 0]) t0 = some _ from upd_same) nx
    have nd : t0 ≠ dx := ne_of_none (show upd H t0 (.tup [.int 0, .int 0, .int 0, .int 0]) t0 = some _ from upd_same) ndx
    refine ⟨x, dx, t0, [0, 0, 0, 0], rfl, upd_same, ?_, rfl, fun n hn => ?_, fun H' e1 e2 => ⟨rfl, ?_⟩⟩
    · show (upd (upd (upd H t0 _) dx _) x _) t0 = _
      rw [upd_ne nt, upd_ne nd]
      exact upd_same
    · have : n = 0 := by simpa using hn
      rw [this]
      exact ⟨by decide, by decide⟩
    refine ⟨_, rfl, _, rfl, x, C_Form, dx, _, rfl, e2, T.cl_Form, T.na_Form_coefficients, (by decide : (1:Nat) < 1000), ?_⟩
    refine ⟨_, rfl, ?_⟩
    have ex : ∀ b o, H b = some o → b ≠ x ∧ H' b = some o := fun b o e => by
      have n1 : b ≠ x := ne_of_none e hx0
      have n2 : b ≠ dx := ne_of_none e hd0
      refine ⟨n1, e1 b o n1 ?_⟩
      rw [upd_ne n1, upd_ne n2]
      exact e0.ap e
    refine q x _ (Ex0.of fun b o e => ?_) ⟨dx, t, ?_, ?_⟩
    · rw [upd_ne (ex b o e).1]
      exact (ex b o e).2
    · rw [upd_same, putF_same]
    · show (upd H' x _) t = _
      rw [upd_ne (ex _ _ ht).1]
      exact (ex _ _ ht).2
theorem ok_Form_coefficients (T : Txt K mg C_Form C_Double) : MDef (fun p f => PropOf K C_Form "coefficients" p f) P w K mg base 1 ["self"] (sp_Form_coefficients K C_Form C_Double) := by
  obtain ⟨p_, f_, fd_, R_, F_⟩ := T.e_Form_coefficients
  refine ⟨p_, f_, fd_, R_, F_.binds (ps := ["self"]) (fun _ _ _ _ _ _ us hl => match us, hl with | [_], _ => rfl), ?_⟩
  refine F_.ok sc_Form_coefficients (fun vs H Q E h => ?_) (fun cdv A outer s H vs Q E hr h => ?_)
  · first | (obtain ⟨rfl, _⟩ := h; rfl) | (obtain ⟨_, rfl, _⟩ := h; rfl) | (obtain ⟨_, _, rfl, _⟩ := h; rfl) | (obtain ⟨_, _, _, rfl, _⟩ := h; rfl) | (obtain ⟨_, _, _, _, rfl, _⟩ := h; rfl) | (obtain ⟨_, _, _, _, _, rfl, _⟩ := h; rfl) | (obtain ⟨_, _, _, _, _, _, rfl, _⟩ := h; rfl) | (obtain ⟨_, _, _, _, _, _, _, rfl, _⟩ := h; rfl) | (obtain ⟨_, _, _, _, _, _, _, _, rfl, _⟩ := h; rfl) | (obtain ⟨_, _, _, _, _, _, _, _, _, rfl, _⟩ := h; rfl) | (obtain ⟨_, _, _, _, _, _, _, _, _, _, rfl, _⟩ := h; rfl) | (obtain ⟨_, _, _, _, _, _, _, _, _, _, _, rfl, _⟩ := h; rfl) | (obtain ⟨_, _, _, _, _, _, _, _, _, _, _, _, rfl, _⟩ := h; rfl) | (obtain ⟨_, _, _, _, _, _, _, _, _, _, _, _, _, rfl, _⟩ := h; rfl) | (obtain ⟨_, _, _, _, _, _, _, _, _, _, _, _, _, _, rfl, _⟩ := h; rfl) | (obtain ⟨_, _, _, _, _, _, _, _, _, _, _, _, _, _, _, rfl, _⟩ := h; rfl) | (obtain ⟨_, _, _, _, _, _, _, _, _, _, _, _, _, _, _, _, rfl, _⟩ := h; rfl) | (obtain ⟨_, _, _, _, _, _, _, _, _, _, _, _, _, _, _, _, _, rfl, _⟩ := h; rfl) | (obtain ⟨_, _, _, _, _, _, _, _, _, _, _, _, _, _, _, _, _, _, rfl, _⟩ := h; rfl) | (obtain ⟨_, _, _, _, _, _, _, _, _, _, _, _, _, _, _, _, _, _, _, rfl, _⟩ := h; rfl) | (obtain ⟨_, _, _, _, _, _, _, _, _, _, _, _, _, _, _, _, _, _, _, _, rfl, _⟩ := h; rfl) | (obtain ⟨_, _, _, _, _, _, _, _, _, _, _, _, _, _, _, _, _, _, _, _, _, rfl, _⟩ := h; rfl) | (obtain ⟨_, _, _, _, _, _, _, _, _, _, _, _, _, _, _, _, _, _, _, _, _, _, rfl, _⟩ := h; rfl) | (obtain ⟨_, _, _, _, _, _, _, _, _, _, _, _, _, _, _, _, _, _, _, _, _, _, _, rfl, _⟩ := h; rfl)
  · obtain ⟨x, ns, rfl, ⟨dx, t, hx, ht⟩, q⟩ := h
    refine ⟨_, (pss_one (ps_ret (pe_fld (pv 0) (by rfl)))), ?_⟩
    exact ⟨_, rfl, x, C_Form, dx, _, .ref t, rfl, hx, T.cl_Form, T.na_Form_coefficients, lk_same, q t ht⟩
theorem ok_Form_discriminant (T : Txt K mg C_Form C_Double) : MDef (fun p f => PropOf K C_Form "discriminant" p f) P w K mg base 2 ["self"] (sp_Form_discriminant K C_Form C_Double) := by
  obtain ⟨p_, f_, fd_, R_, F_⟩ := T.e_Form_discriminant
  obtain ⟨f_form_discriminant, fd_form_discriminant, g_form_discriminant, k_form_discriminant, b_form_discriminant, G_form_discriminant⟩ := (ok_form_discriminant (P := P) (w := w) (base := base) T)
  refine ⟨p_, f_, fd_, R_, F_.binds (ps := ["self"]) (fun _ _ _ _ _ _ us hl => match us, hl with | [_], _ => rfl), ?_⟩
  refine F_.ok sc_Form_discriminant (fun vs H Q E h => ?_) (fun cdv A outer s H vs Q E hr h => ?_)
  · first | (obtain ⟨rfl, _⟩ := h; rfl) | (obtain ⟨_, rfl, _⟩ := h; rfl) | (obtain ⟨_, _, rfl, _⟩ := h; rfl) | (obtain ⟨_, _, _, rfl, _⟩ := h; rfl) | (obtain ⟨_, _, _, _, rfl, _⟩ := h; rfl) | (obtain ⟨_, _, _, _, _, rfl, _⟩ := h; rfl) | (obtain ⟨_, _, _, _, _, _, rfl, _⟩ := h; rfl) | (obtain ⟨_, _, _, _, _, _, _, rfl, _⟩ := h; rfl) | (obtain ⟨_, _, _, _, _, _, _, _, rfl, _⟩ := h; rfl) | (obtain ⟨_, _, _, _, _, _, _, _, _, rfl, _⟩ := h; rfl) | (obtain ⟨_, _, _, _, _, _, _, _, _, _, rfl, _⟩ := h; rfl) | (obtain ⟨_, _, _, _, _, _, _, _, _, _, _, rfl, _⟩ := h; rfl) | (obtain ⟨_, _, _, _, _, _, _, _, _, _, _, _, rfl, _⟩ := h; rfl) | (obtain ⟨_, _, _, _, _, _, _, _, _, _, _, _, _, rfl, _⟩ := h; rfl) | (obtain ⟨_, _, _, _, _, _, _, _, _, _, _, _, _, _, rfl, _⟩ := h; rfl) | (obtain ⟨_, _, _, _, _, _, _, _, _, _, _, _, _, _, _, rfl, _⟩ := h; rfl) | (obtain ⟨_, _, _, _, _, _, _, _, _, _, _, _, _, _, _, _, rfl, _⟩ := h; rfl) | (obtain ⟨_, _, _, _, _, _, _, _, _, _, _, _, _, _, _, _, _, rfl, _⟩ := h; rfl) | (obtain ⟨_, _, _, _, _, _, _, _, _, _, _, _, _, _, _, _, _, _, rfl, _⟩ := h; rfl) | (obtain ⟨_, _, _, _, _, _, _, _, _, _, _, _, _, _, _, _, _, _, _, rfl, _⟩ := h; rfl) | (obtain ⟨_, _, _, _, _, _, _, _, _, _, _, _, _, _, _, _, _, _, _, _, rfl, _⟩ := h; rfl) | (obtain ⟨_, _, _, _, _, _, _, _, _, _, _, _, _, _, _, _, _, _, _, _, _, rfl, _⟩ := h; rfl) | (obtain ⟨_, _, _, _, _, _, _, _, _, _, _, _, _, _, _, _, _, _, _, _, _, _, rfl, _⟩ := h; rfl) | (obtain ⟨_, _, _, _, _, _, _, _, _, _, _, _, _, _, _, _, _, _, _, _, _, _, _, rfl, _⟩ := h; rfl)
  · obtain ⟨x, a, b, c, d, rfl, ⟨dx, t, hx, ht⟩, ba, bb, bc, bd, q⟩ := h
    refine ⟨_, (pss_one (ps_ret (pe_call G_form_discriminant (hr.mono (by decide)) (by rfl) g_form_discriminant k_form_discriminant b_form_discriminant .nil pass0 (pa_cons (pe_fld (pv 0) (by rfl)) pa_nil)))), ?_⟩
    exact ⟨_, rfl, x, C_Form, dx, _, .ref t, rfl, hx, T.cl_Form, T.na_Form_coefficients, lk_same, t, a, b, c, d, rfl, ht, ba, bb, bc, bd, q⟩
theorem ok_Form___call__ (T : Txt K mg C_Form C_Double) : MDef (fun p f => StX.CallO K C_Form f) P w K mg base 4 ["self", "x", "y"] (sp_Form___call__ K C_Form C_Double) := by
  obtain ⟨p_, f_, fd_, R_, F_⟩ := T.e_Form___call__
  obtain ⟨f_check_integer, fd_check_integer, g_check_integer, k_check_integer, b_check_integer, G_check_integer⟩ := (ok_check_integer (P := P) (w := w) (base := base) T)
  obtain ⟨f_form_value, fd_form_value, g_form_value, k_form_value, b_form_value, G_form_value⟩ := (ok_form_value (P := P) (w := w) (base := base) T)
  refine ⟨p_, f_, fd_, R_, F_.binds (ps := ["self", "x", "y"]) (fun _ _ _ _ _ _ us hl => match us, hl with | [_, _, _], _ => rfl), ?_⟩
  refine F_.ok sc_Form___call__ (fun vs H Q E h => ?_) (fun cdv A outer s H vs Q E hr h => ?_)
  · first | (obtain ⟨rfl, _⟩ := h; rfl) | (obtain ⟨_, rfl, _⟩ := h; rfl) | (obtain ⟨_, _, rfl, _⟩ := h; rfl) | (obtain ⟨_, _, _, rfl, _⟩ := h; rfl) | (obtain ⟨_, _, _, _, rfl, _⟩ := h; rfl) | (obtain ⟨_, _, _, _, _, rfl, _⟩ := h; rfl) | (obtain ⟨_, _, _, _, _, _, rfl, _⟩ := h; rfl) | (obtain ⟨_, _, _, _, _, _, _, rfl, _⟩ := h; rfl) | (obtain ⟨_, _, _, _, _, _, _, _, rfl, _⟩ := h; rfl) | (obtain ⟨_, _, _, _, _, _, _, _, _, rfl, _⟩ := h; rfl) | (obtain ⟨_, _, _, _, _, _, _, _, _, _, rfl, _⟩ := h; rfl) | (obtain ⟨_, _, _, _, _, _, _, _, _, _, _, rfl, _⟩ := h; rfl) | (obtain ⟨_, _, _, _, _, _, _, _, _, _, _, _, rfl, _⟩ := h; rfl) | (obtain ⟨_, _, _, _, _, _, _, _, _, _, _, _, _, rfl, _⟩ := h; rfl) | (obtain ⟨_, _, _, _, _, _, _, _, _, _, _, _, _, _, rfl, _⟩ := h; rfl) | (obtain ⟨_, _, _, _, _, _, _, _, _, _, _, _, _, _, _, rfl, _⟩ := h; rfl) | (obtain ⟨_, _, _, _, _, _, _, _, _, _, _, _, _, _, _, _, rfl, _⟩ := h; rfl) | (obtain ⟨_, _, _, _, _, _, _, _, _, _, _, _, _, _, _, _, _, rfl, _⟩ := h; rfl) | (obtain ⟨_, _, _, _, _, _, _, _, _, _, _, _, _, _, _, _, _, _, rfl, _⟩ := h; rfl) | (obtain ⟨_, _, _, _, _, _, _, _, _, _, _, _, _, _, _, _, _, _, _, rfl, _⟩ := h; rfl) | (obtain ⟨_, _, _, _, _, _, _, _, _, _, _, _, _, _, _, _, _, _, _, _, rfl, _⟩ := h; rfl) | (obtain ⟨_, _, _, _, _, _, _, _, _, _, _, _, _, _, _, _, _, _, _, _, _, rfl, _⟩ := h; rfl) | (obtain ⟨_, _, _, _, _, _, _, _, _, _, _, _, _, _, _, _, _, _, _, _, _, _, rfl, _⟩ := h; rfl) | (obtain ⟨_, _, _, _, _, _, _, _, _, _, _, _, _, _, _, _, _, _, _, _, _, _, _, rfl, _⟩ := h; rfl)
  · obtain ⟨z, a, b, c, d, x, y, rfl, ⟨dx, t, hx, ht⟩, ba, bb, bc, bd, sx, sy, q⟩ := h
    refine ⟨_, (pss_cons (ps_expr (pe_call G_check_integer (hr.mono (by decide)) (by rfl) g_check_integer k_check_integer b_check_integer .nil pass0 (pa_cons (pv 1) pa_nil)))
    (pss_cons (ps_expr (pe_call G_check_integer (hr.mono (by decide)) (by rfl) g_check_integer k_check_integer b_check_integer .nil pass0 (pa_cons (pv 2) pa_nil)))
    (pss_one (ps_ret (pe_call G_form_value (hr.mono (by decide)) (by rfl) g_form_value k_form_value b_form_value .nil pass0 (pa_cons (pe_fld (pv 0) (by rfl)) (pa_cons (pv 1) (pa_cons (pv 2) pa_nil)))))))), ?_⟩
    refine ⟨_, rfl, x, rfl, sx, _, rfl, y, rfl, sy, ?_⟩
    exact ⟨_, rfl, z, C_Form, dx, _, .ref t, rfl, hx, T.cl_Form, T.na_Form_coefficients, lk_same, _, rfl, _, rfl, t, a, b, c, d, x, y, rfl, ht, ba, bb, bc, bd, sx.b, sy.b, q⟩
theorem ok_Form_led (T : Txt K mg C_Form C_Double) : MDef (fun p f => Meth K C_Form "led" f) P w K mg base 7 ["self", "change"] (sp_Form_led K C_Form C_Double) := by
  obtain ⟨p_, f_, fd_, R_, F_⟩ := T.e_Form_led
  obtain ⟨f_check_change, fd_check_change, g_check_change, k_check_change, b_check_change, G_check_change⟩ := (ok_check_change (P := P) (w := w) (base := base) T)
  obtain ⟨f_form_led, fd_form_led, g_form_led, k_form_led, b_form_led, G_form_led⟩ := (ok_form_led (P := P) (w := w) (base := base) T)
  obtain ⟨f_form_of, fd_form_of, g_form_of, k_form_of, b_form_of, G_form_of⟩ := (ok_form_of (P := P) (w := w) (base := base) T)
  refine ⟨p_, f_, fd_, R_, F_.binds (ps := ["self", "change"]) (fun _ _ _ _ _ _ us hl => match us, hl with | [_, _], _ => rfl), ?_⟩
  refine F_.ok sc_Form_led (fun vs H Q E h => ?_) (fun cdv A outer s H vs Q E hr h => ?_)
  · first | (obtain ⟨rfl, _⟩ := h; rfl) | (obtain ⟨_, rfl, _⟩ := h; rfl) | (obtain ⟨_, _, rfl, _⟩ := h; rfl) | (obtain ⟨_, _, _, rfl, _⟩ := h; rfl) | (obtain ⟨_, _, _, _, rfl, _⟩ := h; rfl) | (obtain ⟨_, _, _, _, _, rfl, _⟩ := h; rfl) | (obtain ⟨_, _, _, _, _, _, rfl, _⟩ := h; rfl) | (obtain ⟨_, _, _, _, _, _, _, rfl, _⟩ := h; rfl) | (obtain ⟨_, _, _, _, _, _, _, _, rfl, _⟩ := h; rfl) | (obtain ⟨_, _, _, _, _, _, _, _, _, rfl, _⟩ := h; rfl) | (obtain ⟨_, _, _, _, _, _, _, _, _, _, rfl, _⟩ := h; rfl) | (obtain ⟨_, _, _, _, _, _, _, _, _, _, _, rfl, _⟩ := h; rfl) | (obtain ⟨_, _, _, _, _, _, _, _, _, _, _, _, rfl, _⟩ := h; rfl) | (obtain ⟨_, _, _, _, _, _, _, _, _, _, _, _, _, rfl, _⟩ := h; rfl) | (obtain ⟨_, _, _, _, _, _, _, _, _, _, _, _, _, _, rfl, _⟩ := h; rfl) | (obtain ⟨_, _, _, _, _, _, _, _, _, _, _, _, _, _, _, rfl, _⟩ := h; rfl) | (obtain ⟨_, _, _, _, _, _, _, _, _, _, _, _, _, _, _, _, rfl, _⟩ := h; rfl) | (obtain ⟨_, _, _, _, _, _, _, _, _, _, _, _, _, _, _, _, _, rfl, _⟩ := h; rfl) | (obtain ⟨_, _, _, _, _, _, _, _, _, _, _, _, _, _, _, _, _, _, rfl, _⟩ := h; rfl) | (obtain ⟨_, _, _, _, _, _, _, _, _, _, _, _, _, _, _, _, _, _, _, rfl, _⟩ := h; rfl) | (obtain ⟨_, _, _, _, _, _, _, _, _, _, _, _, _, _, _, _, _, _, _, _, rfl, _⟩ := h; rfl) | (obtain ⟨_, _, _, _, _, _, _, _, _, _, _, _, _, _, _, _, _, _, _, _, _, rfl, _⟩ := h; rfl) | (obtain ⟨_, _, _, _, _, _, _, _, _, _, _, _, _, _, _, _, _, _, _, _, _, _, rfl, _⟩ := h; rfl) | (obtain ⟨_, _, _, _, _, _, _, _, _, _, _, _, _, _, _, _, _, _, _, _, _, _, _, rfl, _⟩ := h; rfl)
  · obtain ⟨z, u, a, b, c, d, p, q', r, s', rfl, hz, h4, ba, bb, bc, bd, hc, q⟩ := h
    refine ⟨_, (pss_cons (ps_expr (pe_call G_check_change (hr.mono (by decide)) (by rfl) g_check_change k_check_change b_check_change .nil pass0 (pa_cons (pv 1) pa_nil)))
    (pss_one (ps_ret (pe_call G_form_of (hr.mono (by decide)) (by rfl) g_form_of k_form_of b_form_of .nil pass0 (pa_cons (pe_call G_form_led (hr.mono (by decide)) (by rfl) g_form_led k_form_led b_form_led .nil pass0 (pa_cons (pe_fld (pv 0) (by rfl)) (pa_cons (pv 1) pa_nil))) pa_nil))))), ?_⟩
    refine ⟨_, rfl, u, p, q', r, s', rfl, h4, hc, fun H1 e1 => ?_⟩
    obtain ⟨dx, t, hx, ht⟩ := Ex0.fo e1 hz
    refine ⟨_, rfl, z, C_Form, dx, _, .ref t, rfl, hx, T.cl_Form, T.na_Form_coefficients, lk_same, _, rfl, t, u, a, b, c, d, p, q', r, s', rfl, ht, Ex0.t4 e1 h4, ba, bb, bc, bd, hc.1.b, hc.2.1.b, hc.2.2.1.b, hc.2.2.2.1.b, fun x H2 e2 hx2 => ?_⟩
    exact ⟨x, _, rfl, hx2, fun y H3 e3 hy => q y H3 ((e1.trans e2).trans e3) hy⟩
theorem ok_Double___init__ (T : Txt K mg C_Form C_Double) : MDef (fun p f => Mk K C_Double f) P w K mg base 4 ["self", "coefficients"] (sp_Double___init__ K C_Form C_Double) := by
  obtain ⟨p_, f_, fd_, R_, F_⟩ := T.e_Double___init__
  obtain ⟨f_are_short_integers, fd_are_short_integers, g_are_short_integers, k_are_short_integers, b_are_short_integers, G_are_short_integers⟩ := (ok_are_short_integers (P := P) (w := w) (base := base) T)
  refine ⟨p_, f_, fd_, R_, F_.binds (ps := ["self", "coefficients"]) (fun _ _ _ _ _ _ us hl => match us, hl with | [_, _], _ => rfl), ?_⟩
  refine F_.ok sc_Double___init__ (fun vs H Q E h => ?_) (fun cdv A outer s H vs Q E hr h => ?_)
  · first | (obtain ⟨rfl, _⟩ := h; rfl) | (obtain ⟨_, rfl, _⟩ := h; rfl) | (obtain ⟨_, _, rfl, _⟩ := h; rfl) | (obtain ⟨_, _, _, rfl, _⟩ := h; rfl) | (obtain ⟨_, _, _, _, rfl, _⟩ := h; rfl) | (obtain ⟨_, _, _, _, _, rfl, _⟩ := h; rfl) | (obtain ⟨_, _, _, _, _, _, rfl, _⟩ := h; rfl) | (obtain ⟨_, _, _, _, _, _, _, rfl, _⟩ := h; rfl) | (obtain ⟨_, _, _, _, _, _, _, _, rfl, _⟩ := h; rfl) | (obtain ⟨_, _, _, _, _, _, _, _, _, rfl, _⟩ := h; rfl) | (obtain ⟨_, _, _, _, _, _, _, _, _, _, rfl, _⟩ := h; rfl) | (obtain ⟨_, _, _, _, _, _, _, _, _, _, _, rfl, _⟩ := h; rfl) | (obtain ⟨_, _, _, _, _, _, _, _, _, _, _, _, rfl, _⟩ := h; rfl) | (obtain ⟨_, _, _, _, _, _, _, _, _, _, _, _, _, rfl, _⟩ := h; rfl) | (obtain ⟨_, _, _, _, _, _, _, _, _, _, _, _, _, _, rfl, _⟩ := h; rfl) | (obtain ⟨_, _, _, _, _, _, _, _, _, _, _, _, _, _, _, rfl, _⟩ := h; rfl) | (obtain ⟨_, _, _, _, _, _, _, _, _, _, _, _, _, _, _, _, rfl, _⟩ := h; rfl) | (obtain ⟨_, _, _, _, _, _, _, _, _, _, _, _, _, _, _, _, _, rfl, _⟩ := h; rfl) | (obtain ⟨_, _, _, _, _, _, _, _, _, _, _, _, _, _, _, _, _, _, rfl, _⟩ := h; rfl) | (obtain ⟨_, _, _, _, _, _, _, _, _, _, _, _, _, _, _, _, _, _, _, rfl, _⟩ := h; rfl) | (obtain ⟨_, _, _, _, _, _, _, _, _, _, _, _, _, _, _, _, _, _, _, _, rfl, _⟩ := h; rfl) | (obtain ⟨_, _, _, _, _, _, _, _, _, _, _, _, _, _, _, _, _, _, _, _, _, rfl, _⟩ := h; rfl) | (obtain ⟨_, _, _, _, _, _, _, _, _, _, _, _, _, _, _, _, _, _, _, _, _, _, rfl, _⟩ := h; rfl) | (obtain ⟨_, _, _, _, _, _, _, _, _, _, _, _, _, _, _, _, _, _, _, _, _, _, _, rfl, _⟩ := h; rfl)
  · obtain ⟨x, dx, t, ns, rfl, hx, ht, hl, hs, q⟩ := h
    refine ⟨_, (pss_cons (ps_if (pt_not (pt_val (pe_call G_are_short_integers (hr.mono (by decide)) (by rfl) g_are_short_integers k_are_short_integers b_are_short_integers .nil pass0 (pa_cons (pv 1) (pa_cons pe_int pa_nil)))))
      pss_never
      pss_nil)
    (pss_one (ps_fld (pv 0) (pe_callTy call_tuple_of (by rfl) T.b_tuple (by decide +kernel) (pa_cons (pv 1) pa_nil)) (by rfl)))), ?_⟩
    refine ⟨_, rfl, t, ns, by rw [hl]; rfl, ht, by omega, hs, fun H1 e1 => ⟨_, rfl, ?_⟩⟩
    refine iteF ⟨_, rfl, t, _, rfl, .inr ⟨SqT.of (Ex0.ti e1 ht), ?_⟩⟩
    refine ⟨_, rfl, x, C_Double, dx, _, rfl, e1.ap hx, T.cl_Double, T.na_Double_coefficients, (by decide : (0:Nat) < 1000), ?_⟩
    exact q _ (fun b o n e => by rw [upd_ne n]; exact e1.ap e) upd_same
theorem ok_double_of (T : Txt K mg C_Form C_Double) : Def P w K mg base 6 "double_of" ["coefficients"] (sp_double_of K C_Form C_Double) := by
  obtain ⟨f_, fd_, g_, F_⟩ := T.d_double_of
  obtain ⟨p_Double___init__, f_Double___init__, fd_Double___init__, R_Double___init__, b_Double___init__, G_Double___init__⟩ := (ok_Double___init__ (P := P) (w := w) (base := base) T)
  refine ⟨f_, fd_, g_, F_.kp, F_.binds (ps := ["coefficients"]) (fun _ _ _ _ _ _ us hl => match us, hl with | [_], _ => rfl), ?_⟩
  refine F_.ok sc_double_of (fun vs H Q E h => ?_) (fun cdv A outer s H vs Q E hr h => ?_)
  · first | (obtain ⟨rfl, _⟩ := h; rfl) | (obtain ⟨_, rfl, _⟩ := h; rfl) | (obtain ⟨_, _, rfl, _⟩ := h; rfl) | (obtain ⟨_, _, _, rfl, _⟩ := h; rfl) | (obtain ⟨_, _, _, _, rfl, _⟩ := h; rfl) | (obtain ⟨_, _, _, _, _, rfl, _⟩ := h; rfl) | (obtain ⟨_, _, _, _, _, _, rfl, _⟩ := h; rfl) | (obtain ⟨_, _, _, _, _, _, _, rfl, _⟩ := h; rfl) | (obtain ⟨_, _, _, _, _, _, _, _, rfl, _⟩ := h; rfl) | (obtain ⟨_, _, _, _, _, _, _, _, _, rfl, _⟩ := h; rfl) | (obtain ⟨_, _, _, _, _, _, _, _, _, _, rfl, _⟩ := h; rfl) | (obtain ⟨_, _, _, _, _, _, _, _, _, _, _, rfl, _⟩ := h; rfl) | (obtain ⟨_, _, _, _, _, _, _, _, _, _, _, _, rfl, _⟩ := h; rfl) | (obtain ⟨_, _, _, _, _, _, _, _, _, _, _, _, _, rfl, _⟩ := h; rfl) | (obtain ⟨_, _, _, _, _, _, _, _, _, _, _, _, _, _, rfl, _⟩ := h; rfl) | (obtain ⟨_, _, _, _, _, _, _, _, _, _, _, _, _, _, _, rfl, _⟩ := h; rfl) | (obtain ⟨_, _, _, _, _, _, _, _, _, _, _, _, _, _, _, _, rfl, _⟩ := h; rfl) | (obtain ⟨_, _, _, _, _, _, _, _, _, _, _, _, _, _, _, _, _, rfl, _⟩ := h; rfl) | (obtain ⟨_, _, _, _, _, _, _, _, _, _, _, _, _, _, _, _, _, _, rfl, _⟩ := h; rfl) | (obtain ⟨_, _, _, _, _, _, _, _, _, _, _, _, _, _, _, _, _, _, _, rfl, _⟩ := h; rfl) | (obtain ⟨_, _, _, _, _, _, _, _, _, _, _, _, _, _, _, _, _, _, _, _, rfl, _⟩ := h; rfl) | (obtain ⟨_, _, _, _, _, _, _, _, _, _, _, _, _, _, _, _, _, _, _, _, _, rfl, _⟩ := h; rfl) | (obtain ⟨_, _, _, _, _, _, _, _, _, _, _, _, _, _, _, _, _, _, _, _, _, _, rfl, _⟩ := h; rfl) | (obtain ⟨_, _, _, _, _, _, _, _, _, _, _, _, _, _, _, _, _, _, _, _, _, _, _, rfl, _⟩ := h; rfl)
  · obtain ⟨t, ns, rfl, ht, q⟩ := h
    refine ⟨_, (pss_cons (ps_set (i := 1) sc_double_of.nd rfl (.inl rfl) (pe_make R_Double___init__ G_Double___init__ (hr.mono (by decide)) (by rfl) T.g_Double b_Double___init__ .nil pass0 (pa_cons (pe_tup (pa_cons pe_int (pa_cons pe_int (pa_cons pe_int pa_nil)))) pa_nil)))
    (pss_cons (ps_fld (pv 1) (pv 0) (by rfl))
    (pss_one (ps_ret (pv 1))))), ?_⟩
    refine ⟨sl3, fun t0 n0 => ?_⟩
    intro x dx nx ndx ne
    have e0 : Ex0 H (upd H t0 (.tup [.int 0, .int 0, .int 0])) := Ex0.new n0
    have hx0 : H x = none := Fx.free e0 (fun z => z) nx
    have hd0 : H dx = none := Fx.free e0 (fun z => z) ndx
    have nt : t0 ≠ x := ne_of_none (show upd H t0 (.tup [.int 0, .int 0, .int 0]) t0 = some _ from upd_same) nx
    have nd : t0 ≠ dx := ne_of_none (show upd H t0 (.tup [.int 0, .int 0, .int 0]) t0 = some _ from upd_same) ndx
    refine ⟨x, dx, t0, [0, 0, 0], rfl, upd_same, ?_, rfl, fun n hn => ?_, fun H' e1 e2 => ⟨rfl, ?_⟩⟩
    · show (upd (upd (upd H t0 _) dx _) x _) t0 = _
      rw [upd_ne nt, upd_ne nd]
      exact upd_same
    · have : n = 0 := by simpa using hn
      rw [this]
      exact ⟨by decide, by decide⟩
    refine ⟨_, rfl, _, rfl, x, C_Double, dx, _, rfl, e2, T.cl_Double, T.na_Double_coefficients, (by decide : (1:Nat) < 1000), ?_⟩
    refine ⟨_, rfl, ?_⟩
    have ex : ∀ b o, H b = some o → b ≠ x ∧ H' b = some o := fun b o e => by
      have n1 : b ≠ x := ne_of_none e hx0
      have n2 : b ≠ dx := ne_of_none e hd0
      refine ⟨n1, e1 b o n1 ?_⟩
      rw [upd_ne n1, upd_ne n2]
      exact e0.ap e
    refine q x _ (Ex0.of fun b o e => ?_) ⟨dx, t, ?_, ?_⟩
    · rw [upd_ne (ex b o e).1]
      exact (ex b o e).2
    · rw [upd_same, putF_same]
    · show (upd H' x _) t = _
      rw [upd_ne (ex _ _ ht).1]
      exact (ex _ _ ht).2
theorem ok_Double_coefficients (T : Txt K mg C_Form C_Double) : MDef (fun p f => PropOf K C_Double "coefficients" p f) P w K mg base 1 ["self"] (sp_Double_coefficients K C_Form C_Double) := by
  obtain ⟨p_, f_, fd_, R_, F_⟩ := T.e_Double_coefficients
  refine ⟨p_, f_, fd_, R_, F_.binds (ps := ["self"]) (fun _ _ _ _ _ _ us hl => match us, hl with | [_], _ => rfl), ?_⟩
  refine F_.ok sc_Double_coefficients (fun vs H Q E h => ?_) (fun cdv A outer s H vs Q E hr h => ?_)
  · first | (obtain ⟨rfl, _⟩ := h; rfl) | (obtain ⟨_, rfl, _⟩ := h; rfl) | (obtain ⟨_, _, rfl, _⟩ := h; rfl) | (obtain ⟨_, _, _, rfl, _⟩ := h; rfl) | (obtain ⟨_, _, _, _, rfl, _⟩ := h; rfl) | (obtain ⟨_, _, _, _, _, rfl, _⟩ := h; rfl) | (obtain ⟨_, _, _, _, _, _, rfl, _⟩ := h; rfl) | (obtain ⟨_, _, _, _, _, _, _, rfl, _⟩ := h; rfl) | (obtain ⟨_, _, _, _, _, _, _, _, rfl, _⟩ := h; rfl) | (obtain ⟨_, _, _, _, _, _, _, _, _, rfl, _⟩ := h; rfl) | (obtain ⟨_, _, _, _, _, _, _, _, _, _, rfl, _⟩ := h; rfl) | (obtain ⟨_, _, _, _, _, _, _, _, _, _, _, rfl, _⟩ := h; rfl) | (obtain ⟨_, _, _, _, _, _, _, _, _, _, _, _, rfl, _⟩ := h; rfl) | (obtain ⟨_, _, _, _, _, _, _, _, _, _, _, _, _, rfl, _⟩ := h; rfl) | (obtain ⟨_, _, _, _, _, _, _, _, _, _, _, _, _, _, rfl, _⟩ := h; rfl) | (obtain ⟨_, _, _, _, _, _, _, _, _, _, _, _, _, _, _, rfl, _⟩ := h; rfl) | (obtain ⟨_, _, _, _, _, _, _, _, _, _, _, _, _, _, _, _, rfl, _⟩ := h; rfl) | (obtain ⟨_, _, _, _, _, _, _, _, _, _, _, _, _, _, _, _, _, rfl, _⟩ := h; rfl) | (obtain ⟨_, _, _, _, _, _, _, _, _, _, _, _, _, _, _, _, _, _, rfl, _⟩ := h; rfl) | (obtain ⟨_, _, _, _, _, _, _, _, _, _, _, _, _, _, _, _, _, _, _, rfl, _⟩ := h; rfl) | (obtain ⟨_, _, _, _, _, _, _, _, _, _, _, _, _, _, _, _, _, _, _, _, rfl, _⟩ := h; rfl) | (obtain ⟨_, _, _, _, _, _, _, _, _, _, _, _, _, _, _, _, _, _, _, _, _, rfl, _⟩ := h; rfl) | (obtain ⟨_, _, _, _, _, _, _, _, _, _, _, _, _, _, _, _, _, _, _, _, _, _, rfl, _⟩ := h; rfl) | (obtain ⟨_, _, _, _, _, _, _, _, _, _, _, _, _, _, _, _, _, _, _, _, _, _, _, rfl, _⟩ := h; rfl)
  · obtain ⟨x, ns, rfl, ⟨dx, t, hx, ht⟩, q⟩ := h
    refine ⟨_, (pss_one (ps_ret (pe_fld (pv 0) (by rfl)))), ?_⟩
    exact ⟨_, rfl, x, C_Double, dx, _, .ref t, rfl, hx, T.cl_Double, T.na_Double_coefficients, lk_same, q t ht⟩
theorem ok_Double_discriminant (T : Txt K mg C_Form C_Double) : MDef (fun p f => PropOf K C_Double "discriminant" p f) P w K mg base 2 ["self"] (sp_Double_discriminant K C_Form C_Double) := by
  obtain ⟨p_, f_, fd_, R_, F_⟩ := T.e_Double_discriminant
  obtain ⟨f_double_discriminant, fd_double_discriminant, g_double_discriminant, k_double_discriminant, b_double_discriminant, G_double_discriminant⟩ := (ok_double_discriminant (P := P) (w := w) (base := base) T)
  refine ⟨p_, f_, fd_, R_, F_.binds (ps := ["self"]) (fun _ _ _ _ _ _ us hl => match us, hl with | [_], _ => rfl), ?_⟩
  refine F_.ok sc_Double_discriminant (fun vs H Q E h => ?_) (fun cdv A outer s H vs Q E hr h => ?_)
  · first | (obtain ⟨rfl, _⟩ := h; rfl) | (obtain ⟨_, rfl, _⟩ := h; rfl) | (obtain ⟨_, _, rfl, _⟩ := h; rfl) | (obtain ⟨_, _, _, rfl, _⟩ := h; rfl) | (obtain ⟨_, _, _, _, rfl, _⟩ := h; rfl) | (obtain ⟨_, _, _, _, _, rfl, _⟩ := h; rfl) | (obtain ⟨_, _, _, _, _, _, rfl, _⟩ := h; rfl) | (obtain ⟨_, _, _, _, _, _, _, rfl, _⟩ := h; rfl) | (obtain ⟨_, _, _, _, _, _, _, _, rfl, _⟩ := h; rfl) | (obtain ⟨_, _, _, _, _, _, _, _, _, rfl, _⟩ := h; rfl) | (obtain ⟨_, _, _, _, _, _, _, _, _, _, rfl, _⟩ := h; rfl) | (obtain ⟨_, _, _, _, _, _, _, _, _, _, _, rfl, _⟩ := h; rfl) | (obtain ⟨_, _, _, _, _, _, _, _, _, _, _, _, rfl, _⟩ := h; rfl) | (obtain ⟨_, _, _, _, _, _, _, _, _, _, _, _, _, rfl, _⟩ := h; rfl) | (obtain ⟨_, _, _, _, _, _, _, _, _, _, _, _, _, _, rfl, _⟩ := h; rfl) | (obtain ⟨_, _, _, _, _, _, _, _, _, _, _, _, _, _, _, rfl, _⟩ := h; rfl) | (obtain ⟨_, _, _, _, _, _, _, _, _, _, _, _, _, _, _, _, rfl, _⟩ := h; rfl) | (obtain ⟨_, _, _, _, _, _, _, _, _, _, _, _, _, _, _, _, _, rfl, _⟩ := h; rfl) | (obtain ⟨_, _, _, _, _, _, _, _, _, _, _, _, _, _, _, _, _, _, rfl, _⟩ := h; rfl) | (obtain ⟨_, _, _, _, _, _, _, _, _, _, _, _, _, _, _, _, _, _, _, rfl, _⟩ := h; rfl) | (obtain ⟨_, _, _, _, _, _, _, _, _, _, _, _, _, _, _, _, _, _, _, _, rfl, _⟩ := h; rfl) | (obtain ⟨_, _, _, _, _, _, _, _, _, _, _, _, _, _, _, _, _, _, _, _, _, rfl, _⟩ := h; rfl) | (obtain ⟨_, _, _, _, _, _, _, _, _, _, _, _, _, _, _, _, _, _, _, _, _, _, rfl, _⟩ := h; rfl) | (obtain ⟨_, _, _, _, _, _, _, _, _, _, _, _, _, _, _, _, _, _, _, _, _, _, _, rfl, _⟩ := h; rfl)
  · obtain ⟨x, a, b, c, rfl, ⟨dx, t, hx, ht⟩, ba, bb, bc, q⟩ := h
    refine ⟨_, (pss_one (ps_ret (pe_call G_double_discriminant (hr.mono (by decide)) (by rfl) g_double_discriminant k_double_discriminant b_double_discriminant .nil pass0 (pa_cons (pe_fld (pv 0) (by rfl)) pa_nil)))), ?_⟩
    exact ⟨_, rfl, x, C_Double, dx, _, .ref t, rfl, hx, T.cl_Double, T.na_Double_coefficients, lk_same, t, a, b, c, rfl, ht, ba, bb, bc, q⟩
theorem ok_Double___call__ (T : Txt K mg C_Form C_Double) : MDef (fun p f => StX.CallO K C_Double f) P w K mg base 4 ["self", "x", "y"] (sp_Double___call__ K C_Form C_Double) := by
  obtain ⟨p_, f_, fd_, R_, F_⟩ := T.e_Double___call__
  obtain ⟨f_check_integer, fd_check_integer, g_check_integer, k_check_integer, b_check_integer, G_check_integer⟩ := (ok_check_integer (P := P) (w := w) (base := base) T)
  obtain ⟨f_double_value, fd_double_value, g_double_value, k_double_value, b_double_value, G_double_value⟩ := (ok_double_value (P := P) (w := w) (base := base) T)
  refine ⟨p_, f_, fd_, R_, F_.binds (ps := ["self", "x", "y"]) (fun _ _ _ _ _ _ us hl => match us, hl with | [_, _, _], _ => rfl), ?_⟩
  refine F_.ok sc_Double___call__ (fun vs H Q E h => ?_) (fun cdv A outer s H vs Q E hr h => ?_)
  · first | (obtain ⟨rfl, _⟩ := h; rfl) | (obtain ⟨_, rfl, _⟩ := h; rfl) | (obtain ⟨_, _, rfl, _⟩ := h; rfl) | (obtain ⟨_, _, _, rfl, _⟩ := h; rfl) | (obtain ⟨_, _, _, _, rfl, _⟩ := h; rfl) | (obtain ⟨_, _, _, _, _, rfl, _⟩ := h; rfl) | (obtain ⟨_, _, _, _, _, _, rfl, _⟩ := h; rfl) | (obtain ⟨_, _, _, _, _, _, _, rfl, _⟩ := h; rfl) | (obtain ⟨_, _, _, _, _, _, _, _, rfl, _⟩ := h; rfl) | (obtain ⟨_, _, _, _, _, _, _, _, _, rfl, _⟩ := h; rfl) | (obtain ⟨_, _, _, _, _, _, _, _, _, _, rfl, _⟩ := h; rfl) | (obtain ⟨_, _, _, _, _, _, _, _, _, _, _, rfl, _⟩ := h; rfl) | (obtain ⟨_, _, _, _, _, _, _, _, _, _, _, _, rfl, _⟩ := h; rfl) | (obtain ⟨_, _, _, _, _, _, _, _, _, _, _, _, _, rfl, _⟩ := h; rfl) | (obtain ⟨_, _, _, _, _, _, _, _, _, _, _, _, _, _, rfl, _⟩ := h; rfl) | (obtain ⟨_, _, _, _, _, _, _, _, _, _, _, _, _, _, _, rfl, _⟩ := h; rfl) | (obtain ⟨_, _, _, _, _, _, _, _, _, _, _, _, _, _, _, _, rfl, _⟩ := h; rfl) | (obtain ⟨_, _, _, _, _, _, _, _, _, _, _, _, _, _, _, _, _, rfl, _⟩ := h; rfl) | (obtain ⟨_, _, _, _, _, _, _, _, _, _, _, _, _, _, _, _, _, _, rfl, _⟩ := h; rfl) | (obtain ⟨_, _, _, _, _, _, _, _, _, _, _, _, _, _, _, _, _, _, _, rfl, _⟩ := h; rfl) | (obtain ⟨_, _, _, _, _, _, _, _, _, _, _, _, _, _, _, _, _, _, _, _, rfl, _⟩ := h; rfl) | (obtain ⟨_, _, _, _, _, _, _, _, _, _, _, _, _, _, _, _, _, _, _, _, _, rfl, _⟩ := h; rfl) | (obtain ⟨_, _, _, _, _, _, _, _, _, _, _, _, _, _, _, _, _, _, _, _, _, _, rfl, _⟩ := h; rfl) | (obtain ⟨_, _, _, _, _, _, _, _, _, _, _, _, _, _, _, _, _, _, _, _, _, _, _, rfl, _⟩ := h; rfl)
  · obtain ⟨z, a, b, c, x, y, rfl, ⟨dx, t, hx, ht⟩, ba, bb, bc, sx, sy, q⟩ := h
    refine ⟨_, (pss_cons (ps_expr (pe_call G_check_integer (hr.mono (by decide)) (by rfl) g_check_integer k_check_integer b_check_integer .nil pass0 (pa_cons (pv 1) pa_nil)))
    (pss_cons (ps_expr (pe_call G_check_integer (hr.mono (by decide)) (by rfl) g_check_integer k_check_integer b_check_integer .nil pass0 (pa_cons (pv 2) pa_nil)))
    (pss_one (ps_ret (pe_call G_double_value (hr.mono (by decide)) (by rfl) g_double_value k_double_value b_double_value .nil pass0 (pa_cons (pe_fld (pv 0) (by rfl)) (pa_cons (pv 1) (pa_cons (pv 2) pa_nil)))))))), ?_⟩
    refine ⟨_, rfl, x, rfl, sx, _, rfl, y, rfl, sy, ?_⟩
    exact ⟨_, rfl, z, C_Double, dx, _, .ref t, rfl, hx, T.cl_Double, T.na_Double_coefficients, lk_same, _, rfl, _, rfl, t, a, b, c, x, y, rfl, ht, ba.mono (by decide), bb.mono (by decide), bc.mono (by decide), sx.b.mono (by decide), sy.b.mono (by decide), q⟩
theorem ok_double_led (T : Txt K mg C_Form C_Double) : Def P w K mg base 2 "double_led" ["coefficients", "change"] (sp_double_led K C_Form C_Double) := by
  obtain ⟨f_, fd_, g_, F_⟩ := T.d_double_led
  obtain ⟨f_double_value, fd_double_value, g_double_value, k_double_value, b_double_value, G_double_value⟩ := (ok_double_value (P := P) (w := w) (base := base) T)
  refine ⟨f_, fd_, g_, F_.kp, F_.binds (ps := ["coefficients", "change"]) (fun _ _ _ _ _ _ us hl => match us, hl with | [_, _], _ => rfl), ?_⟩
  refine F_.ok sc_double_led (fun vs H Q E h => ?_) (fun cdv A outer s H vs Q E hr h => ?_)
  · first | (obtain ⟨rfl, _⟩ := h; rfl) | (obtain ⟨_, rfl, _⟩ := h; rfl) | (obtain ⟨_, _, rfl, _⟩ := h; rfl) | (obtain ⟨_, _, _, rfl, _⟩ := h; rfl) | (obtain ⟨_, _, _, _, rfl, _⟩ := h; rfl) | (obtain ⟨_, _, _, _, _, rfl, _⟩ := h; rfl) | (obtain ⟨_, _, _, _, _, _, rfl, _⟩ := h; rfl) | (obtain ⟨_, _, _, _, _, _, _, rfl, _⟩ := h; rfl) | (obtain ⟨_, _, _, _, _, _, _, _, rfl, _⟩ := h; rfl) | (obtain ⟨_, _, _, _, _, _, _, _, _, rfl, _⟩ := h; rfl) | (obtain ⟨_, _, _, _, _, _, _, _, _, _, rfl, _⟩ := h; rfl) | (obtain ⟨_, _, _, _, _, _, _, _, _, _, _, rfl, _⟩ := h; rfl) | (obtain ⟨_, _, _, _, _, _, _, _, _, _, _, _, rfl, _⟩ := h; rfl) | (obtain ⟨_, _, _, _, _, _, _, _, _, _, _, _, _, rfl, _⟩ := h; rfl) | (obtain ⟨_, _, _, _, _, _, _, _, _, _, _, _, _, _, rfl, _⟩ := h; rfl) | (obtain ⟨_, _, _, _, _, _, _, _, _, _, _, _, _, _, _, rfl, _⟩ := h; rfl) | (obtain ⟨_, _, _, _, _, _, _, _, _, _, _, _, _, _, _, _, rfl, _⟩ := h; rfl) | (obtain ⟨_, _, _, _, _, _, _, _, _, _, _, _, _, _, _, _, _, rfl, _⟩ := h; rfl) | (obtain ⟨_, _, _, _, _, _, _, _, _, _, _, _, _, _, _, _, _, _, rfl, _⟩ := h; rfl) | (obtain ⟨_, _, _, _, _, _, _, _, _, _, _, _, _, _, _, _, _, _, _, rfl, _⟩ := h; rfl) | (obtain ⟨_, _, _, _, _, _, _, _, _, _, _, _, _, _, _, _, _, _, _, _, rfl, _⟩ := h; rfl) | (obtain ⟨_, _, _, _, _, _, _, _, _, _, _, _, _, _, _, _, _, _, _, _, _, rfl, _⟩ := h; rfl) | (obtain ⟨_, _, _, _, _, _, _, _, _, _, _, _, _, _, _, _, _, _, _, _, _, _, rfl, _⟩ := h; rfl) | (obtain ⟨_, _, _, _, _, _, _, _, _, _, _, _, _, _, _, _, _, _, _, _, _, _, _, rfl, _⟩ := h; rfl)
  · obtain ⟨t, u, a, b, c, p, q', r, s', rfl, ht, h4, ba, bb, bc, bp, bq, br, bs, q⟩ := h
    refine ⟨_, (pss_cons (ps_asg (pv 0) (pg_tup (by rfl) (pgs_cons (pg_name (i := 2) sc_double_led.nd rfl (.inl rfl)) (pgs_cons (pg_name (i := 3) sc_double_led.nd rfl (.inl rfl)) (pgs_cons (pg_name (i := 4) sc_double_led.nd rfl (.inl rfl)) pgs_nil)))))
    (pss_cons (ps_asg (pv 1) (pg_tup (by rfl) (pgs_cons (pg_tup (by rfl) (pgs_cons (pg_name (i := 5) sc_double_led.nd rfl (.inl rfl)) (pgs_cons (pg_name (i := 6) sc_double_led.nd rfl (.inl rfl)) pgs_nil))) (pgs_cons (pg_tup (by rfl) (pgs_cons (pg_name (i := 7) sc_double_led.nd rfl (.inl rfl)) (pgs_cons (pg_name (i := 8) sc_double_led.nd rfl (.inl rfl)) pgs_nil))) pgs_nil))))
    (pss_cons (ps_set (i := 9) sc_double_led.nd rfl (.inl rfl) (pe_op op_add (pe_op op_add (pe_op op_mulW (pe_op op_mulW (pe_op op_mulW pe_int (pv 2)) (pv 5)) (pv 7)) (pe_op op_mulW (pv 3) (pe_op op_add (pe_op op_mulW (pv 5) (pv 8)) (pe_op op_mulW (pv 6) (pv 7))))) (pe_op op_mulW (pe_op op_mulW (pe_op op_mulW pe_int (pv 4)) (pv 6)) (pv 8))))
    (pss_one (ps_ret (pe_tup (pa_cons (pe_call G_double_value (hr.mono (by decide)) (by rfl) g_double_value k_double_value b_double_value .nil pass0 (pa_cons (pv 0) (pa_cons (pv 5) (pa_cons (pv 6) pa_nil)))) (pa_cons (pv 9) (pa_cons (pe_call G_double_value (hr.mono (by decide)) (by rfl) g_double_value k_double_value b_double_value .nil pass0 (pa_cons (pv 0) (pa_cons (pv 7) (pa_cons (pv 8) pa_nil)))) pa_nil))))))))), ?_⟩
    refine ⟨_, rfl, unI3 ht ?_⟩
    refine ⟨_, rfl, unq h4 ?_⟩
    refine ⟨_, rfl, _, _, rfl, rfl, mulB (B.lit (by decide)) (by with_reducible assumption) (by decide), _, rfl, _, _, rfl, rfl, mulB (B.mul (B.lit (by decide)) (by with_reducible assumption)) (by with_reducible assumption) (by decide), _, rfl, _, _, rfl, rfl, mulB (B.mul (B.mul (B.lit (by decide)) (by with_reducible assumption)) (by with_reducible assumption)) (by with_reducible assumption) (by decide), _, rfl, _, rfl, _, rfl, _, _, rfl, rfl, mulB (by with_reducible assumption) (by with_reducible assumption) (by decide), _, rfl, _, rfl, _, _, rfl, rfl, mulB (by with_reducible assumption) (by with_reducible assumption) (by decide), _, _, rfl, rfl, _, _, rfl, rfl, mulB (by with_reducible assumption) (B.add (B.mul (by with_reducible assumption) (by with_reducible assumption)) (B.mul (by with_reducible assumption) (by with_reducible assumption))) (by decide), _, _, rfl, rfl, _, rfl, _, _, rfl, rfl, mulB (B.lit (by decide)) (by with_reducible assumption) (by decide), _, rfl, _, _, rfl, rfl, mulB (B.mul (B.lit (by decide)) (by with_reducible assumption)) (by with_reducible assumption) (by decide), _, rfl, _, _, rfl, rfl, mulB (B.mul (B.mul (B.lit (by decide)) (by with_reducible assumption)) (by with_reducible assumption)) (by with_reducible assumption) (by decide), _, _, rfl, rfl, ?_⟩
    refine ⟨_, rfl, _, rfl, _, rfl, t, a, b, c, p, q', rfl, ht, ba, bb, bc, bp, bq, ?_⟩
    refine ⟨_, rfl, _, rfl, _, rfl, _, rfl, t, a, b, c, r, s', rfl, ht, ba, bb, bc, br, bs, sl3, fun x nx => ?_⟩
    exact q x _ (Ex0.new nx) upd_same
theorem ok_Double_led (T : Txt K mg C_Form C_Double) : MDef (fun p f => Meth K C_Double "led" f) P w K mg base 7 ["self", "change"] (sp_Double_led K C_Form C_Double) := by
  obtain ⟨p_, f_, fd_, R_, F_⟩ := T.e_Double_led
  obtain ⟨f_check_change, fd_check_change, g_check_change, k_check_change, b_check_change, G_check_change⟩ := (ok_check_change (P := P) (w := w) (base := base) T)
  obtain ⟨f_double_led, fd_double_led, g_double_led, k_double_led, b_double_led, G_double_led⟩ := (ok_double_led (P := P) (w := w) (base := base) T)
  obtain ⟨f_double_of, fd_double_of, g_double_of, k_double_of, b_double_of, G_double_of⟩ := (ok_double_of (P := P) (w := w) (base := base) T)
  refine ⟨p_, f_, fd_, R_, F_.binds (ps := ["self", "change"]) (fun _ _ _ _ _ _ us hl => match us, hl with | [_, _], _ => rfl), ?_⟩
  refine F_.ok sc_Double_led (fun vs H Q E h => ?_) (fun cdv A outer s H vs Q E hr h => ?_)
  · first | (obtain ⟨rfl, _⟩ := h; rfl) | (obtain ⟨_, rfl, _⟩ := h; rfl) | (obtain ⟨_, _, rfl, _⟩ := h; rfl) | (obtain ⟨_, _, _, rfl, _⟩ := h; rfl) | (obtain ⟨_, _, _, _, rfl, _⟩ := h; rfl) | (obtain ⟨_, _, _, _, _, rfl, _⟩ := h; rfl) | (obtain ⟨_, _, _, _, _, _, rfl, _⟩ := h; rfl) | (obtain ⟨_, _, _, _, _, _, _, rfl, _⟩ := h; rfl) | (obtain ⟨_, _, _, _, _, _, _, _, rfl, _⟩ := h; rfl) | (obtain ⟨_, _, _, _, _, _, _, _, _, rfl, _⟩ := h; rfl) | (obtain ⟨_, _, _, _, _, _, _, _, _, _, rfl, _⟩ := h; rfl) | (obtain ⟨_, _, _, _, _, _, _, _, _, _, _, rfl, _⟩ := h; rfl) | (obtain ⟨_, _, _, _, _, _, _, _, _, _, _, _, rfl, _⟩ := h; rfl) | (obtain ⟨_, _, _, _, _, _, _, _, _, _, _, _, _, rfl, _⟩ := h; rfl) | (obtain ⟨_, _, _, _, _, _, _, _, _, _, _, _, _, _, rfl, _⟩ := h; rfl) | (obtain ⟨_, _, _, _, _, _, _, _, _, _, _, _, _, _, _, rfl, _⟩ := h; rfl) | (obtain ⟨_, _, _, _, _, _, _, _, _, _, _, _, _, _, _, _, rfl, _⟩ := h; rfl) | (obtain ⟨_, _, _, _, _, _, _, _, _, _, _, _, _, _, _, _, _, rfl, _⟩ := h; rfl) | (obtain ⟨_, _, _, _, _, _, _, _, _, _, _, _, _, _, _, _, _, _, rfl, _⟩ := h; rfl) | (obtain ⟨_, _, _, _, _, _, _, _, _, _, _, _, _, _, _, _, _, _, _, rfl, _⟩ := h; rfl) | (obtain ⟨_, _, _, _, _, _, _, _, _, _, _, _, _, _, _, _, _, _, _, _, rfl, _⟩ := h; rfl) | (obtain ⟨_, _, _, _, _, _, _, _, _, _, _, _, _, _, _, _, _, _, _, _, _, rfl, _⟩ := h; rfl) | (obtain ⟨_, _, _, _, _, _, _, _, _, _, _, _, _, _, _, _, _, _, _, _, _, _, rfl, _⟩ := h; rfl) | (obtain ⟨_, _, _, _, _, _, _, _, _, _, _, _, _, _, _, _, _, _, _, _, _, _, _, rfl, _⟩ := h; rfl)
  · obtain ⟨z, u, a, b, c, p, q', r, s', rfl, hz, h4, ba, bb, bc, hc, q⟩ := h
    refine ⟨_, (pss_cons (ps_expr (pe_call G_check_change (hr.mono (by decide)) (by rfl) g_check_change k_check_change b_check_change .nil pass0 (pa_cons (pv 1) pa_nil)))
    (pss_one (ps_ret (pe_call G_double_of (hr.mono (by decide)) (by rfl) g_double_of k_double_of b_double_of .nil pass0 (pa_cons (pe_call G_double_led (hr.mono (by decide)) (by rfl) g_double_led k_double_led b_double_led .nil pass0 (pa_cons (pe_fld (pv 0) (by rfl)) (pa_cons (pv 1) pa_nil))) pa_nil))))), ?_⟩
    refine ⟨_, rfl, u, p, q', r, s', rfl, h4, hc, fun H1 e1 => ?_⟩
    obtain ⟨dx, t, hx, ht⟩ := Ex0.fo e1 hz
    refine ⟨_, rfl, z, C_Double, dx, _, .ref t, rfl, hx, T.cl_Double, T.na_Double_coefficients, lk_same, _, rfl, t, u, a, b, c, p, q', r, s', rfl, ht, (Ex0.t4 e1 h4).q, ba.mono (by decide), bb.mono (by decide), bc.mono (by decide), hc.1.b.mono (by decide), hc.2.1.b.mono (by decide), hc.2.2.1.b.mono (by decide), hc.2.2.2.1.b.mono (by decide), fun x H2 e2 hx2 => ?_⟩
    exact ⟨x, _, rfl, hx2, fun y H3 e3 hy => q y H3 ((e1.trans e2).trans e3) hy⟩
theorem ok_Form___eq__ (T : Txt K mg C_Form C_Double) : MDef (fun p f => EqC K C_Form f) P w K mg base 1 ["self", "other"] (sp_Form___eq__ K C_Form C_Double) := by
  obtain ⟨p_, f_, fd_, R_, F_⟩ := T.e_Form___eq__
  refine ⟨p_, f_, fd_, R_, F_.binds (ps := ["self", "other"]) (fun _ _ _ _ _ _ us hl => match us, hl with | [_, _], _ => rfl), ?_⟩
  refine F_.ok sc_Form___eq__ (fun vs H Q E h => ?_) (fun cdv A outer s H vs Q E hr h => ?_)
  · first | (obtain ⟨rfl, _⟩ := h; rfl) | (obtain ⟨_, rfl, _⟩ := h; rfl) | (obtain ⟨_, _, rfl, _⟩ := h; rfl) | (obtain ⟨_, _, _, rfl, _⟩ := h; rfl) | (obtain ⟨_, _, _, _, rfl, _⟩ := h; rfl) | (obtain ⟨_, _, _, _, _, rfl, _⟩ := h; rfl) | (obtain ⟨_, _, _, _, _, _, rfl, _⟩ := h; rfl) | (obtain ⟨_, _, _, _, _, _, _, rfl, _⟩ := h; rfl) | (obtain ⟨_, _, _, _, _, _, _, _, rfl, _⟩ := h; rfl) | (obtain ⟨_, _, _, _, _, _, _, _, _, rfl, _⟩ := h; rfl) | (obtain ⟨_, _, _, _, _, _, _, _, _, _, rfl, _⟩ := h; rfl) | (obtain ⟨_, _, _, _, _, _, _, _, _, _, _, rfl, _⟩ := h; rfl) | (obtain ⟨_, _, _, _, _, _, _, _, _, _, _, _, rfl, _⟩ := h; rfl) | (obtain ⟨_, _, _, _, _, _, _, _, _, _, _, _, _, rfl, _⟩ := h; rfl) | (obtain ⟨_, _, _, _, _, _, _, _, _, _, _, _, _, _, rfl, _⟩ := h; rfl) | (obtain ⟨_, _, _, _, _, _, _, _, _, _, _, _, _, _, _, rfl, _⟩ := h; rfl) | (obtain ⟨_, _, _, _, _, _, _, _, _, _, _, _, _, _, _, _, rfl, _⟩ := h; rfl) | (obtain ⟨_, _, _, _, _, _, _, _, _, _, _, _, _, _, _, _, _, rfl, _⟩ := h; rfl) | (obtain ⟨_, _, _, _, _, _, _, _, _, _, _, _, _, _, _, _, _, _, rfl, _⟩ := h; rfl) | (obtain ⟨_, _, _, _, _, _, _, _, _, _, _, _, _, _, _, _, _, _, _, rfl, _⟩ := h; rfl) | (obtain ⟨_, _, _, _, _, _, _, _, _, _, _, _, _, _, _, _, _, _, _, _, rfl, _⟩ := h; rfl) | (obtain ⟨_, _, _, _, _, _, _, _, _, _, _, _, _, _, _, _, _, _, _, _, _, rfl, _⟩ := h; rfl) | (obtain ⟨_, _, _, _, _, _, _, _, _, _, _, _, _, _, _, _, _, _, _, _, _, _, rfl, _⟩ := h; rfl) | (obtain ⟨_, _, _, _, _, _, _, _, _, _, _, _, _, _, _, _, _, _, _, _, _, _, _, rfl, _⟩ := h; rfl)
  · obtain ⟨x, y, ns, ms, rfl, ⟨dx, t, hx, ht⟩, ⟨dy, u, hy, hu⟩, q⟩ := h
    refine ⟨_, (pss_one (ps_ret (pe_and (pe_callB call_isi (by rfl) T.b_isinstance (by decide +kernel) (pa_cons (pv 1) (pa_cons (pe_glob (v := .ref C_Form) (by rfl) T.g_Form rfl) pa_nil))) (pe_one (pe_cmpR (op_eqD hr.units) (pe_fld (pv 0) (by rfl)) (pe_fld (pv 1) (by rfl)) (nomark _)))))), ?_⟩
    refine ⟨_, rfl, _, _, _, _, true, rfl, .own _, ty_ins T.ty_Form T.cl_Form hy, kit_self, _, rfl, ?_⟩
    refine ⟨_, rfl, x, C_Form, dx, _, .ref t, rfl, hx, T.cl_Form, T.na_Form_coefficients, lk_same, _, rfl, y, C_Form, dy, _, .ref u, rfl, hy, T.cl_Form, T.na_Form_coefficients, lk_same, ?_⟩
    refine ⟨.tuple (ns.map .int), .tuple (ms.map .int), .tup (SqT.of ht) (dp_ints _), .tup (SqT.of hu) (dp_ints _), shaped_tints _, shaped_tints _, ?_⟩
    rw [PyData.eqv, eqv_ints]
    exact q
theorem ok_check_form (T : Txt K mg C_Form C_Double) : Def P w K mg base 1 "check_form" ["value"] (sp_check_form K C_Form C_Double) := by
  obtain ⟨f_, fd_, g_, F_⟩ := T.d_check_form
  refine ⟨f_, fd_, g_, F_.kp, F_.binds (ps := ["value"]) (fun _ _ _ _ _ _ us hl => match us, hl with | [_], _ => rfl), ?_⟩
  refine F_.ok sc_check_form (fun vs H Q E h => ?_) (fun cdv A outer s H vs Q E hr h => ?_)
  · first | (obtain ⟨rfl, _⟩ := h; rfl) | (obtain ⟨_, rfl, _⟩ := h; rfl) | (obtain ⟨_, _, rfl, _⟩ := h; rfl) | (obtain ⟨_, _, _, rfl, _⟩ := h; rfl) | (obtain ⟨_, _, _, _, rfl, _⟩ := h; rfl) | (obtain ⟨_, _, _, _, _, rfl, _⟩ := h; rfl) | (obtain ⟨_, _, _, _, _, _, rfl, _⟩ := h; rfl) | (obtain ⟨_, _, _, _, _, _, _, rfl, _⟩ := h; rfl) | (obtain ⟨_, _, _, _, _, _, _, _, rfl, _⟩ := h; rfl) | (obtain ⟨_, _, _, _, _, _, _, _, _, rfl, _⟩ := h; rfl) | (obtain ⟨_, _, _, _, _, _, _, _, _, _, rfl, _⟩ := h; rfl) | (obtain ⟨_, _, _, _, _, _, _, _, _, _, _, rfl, _⟩ := h; rfl) | (obtain ⟨_, _, _, _, _, _, _, _, _, _, _, _, rfl, _⟩ := h; rfl) | (obtain ⟨_, _, _, _, _, _, _, _, _, _, _, _, _, rfl, _⟩ := h; rfl) | (obtain ⟨_, _, _, _, _, _, _, _, _, _, _, _, _, _, rfl, _⟩ := h; rfl) | (obtain ⟨_, _, _, _, _, _, _, _, _, _, _, _, _, _, _, rfl, _⟩ := h; rfl) | (obtain ⟨_, _, _, _, _, _, _, _, _, _, _, _, _, _, _, _, rfl, _⟩ := h; rfl) | (obtain ⟨_, _, _, _, _, _, _, _, _, _, _, _, _, _, _, _, _, rfl, _⟩ := h; rfl) | (obtain ⟨_, _, _, _, _, _, _, _, _, _, _, _, _, _, _, _, _, _, rfl, _⟩ := h; rfl) | (obtain ⟨_, _, _, _, _, _, _, _, _, _, _, _, _, _, _, _, _, _, _, rfl, _⟩ := h; rfl) | (obtain ⟨_, _, _, _, _, _, _, _, _, _, _, _, _, _, _, _, _, _, _, _, rfl, _⟩ := h; rfl) | (obtain ⟨_, _, _, _, _, _, _, _, _, _, _, _, _, _, _, _, _, _, _, _, _, rfl, _⟩ := h; rfl) | (obtain ⟨_, _, _, _, _, _, _, _, _, _, _, _, _, _, _, _, _, _, _, _, _, _, rfl, _⟩ := h; rfl) | (obtain ⟨_, _, _, _, _, _, _, _, _, _, _, _, _, _, _, _, _, _, _, _, _, _, _, rfl, _⟩ := h; rfl)
  · obtain ⟨x, ns, rfl, ⟨dx, t, hx, ht⟩, q⟩ := h
    refine ⟨_, (pss_one (ps_if (pt_not (pt_val (pe_callB call_isi (by rfl) T.b_isinstance (by decide +kernel) (pa_cons (pv 0) (pa_cons (pe_glob (v := .ref C_Form) (by rfl) T.g_Form rfl) pa_nil)))))
      pss_never
      pss_nil)), ?_⟩
    refine ⟨_, rfl, _, _, _, _, true, rfl, .own _, ty_ins T.ty_Form T.cl_Form hx, kit_self, _, rfl, ?_⟩
    exact iteF q
theorem ok_Form_hessian (T : Txt K mg C_Form C_Double) : MDef (fun p f => PropOf K C_Form "hessian" p f) P w K mg base 7 ["self"] (sp_Form_hessian K C_Form C_Double) := by
  obtain ⟨p_, f_, fd_, R_, F_⟩ := T.e_Form_hessian
  obtain ⟨f_double_of, fd_double_of, g_double_of, k_double_of, b_double_of, G_double_of⟩ := (ok_double_of (P := P) (w := w) (base := base) T)
  obtain ⟨f_form_hessian, fd_form_hessian, g_form_hessian, k_form_hessian, b_form_hessian, G_form_hessian⟩ := (ok_form_hessian (P := P) (w := w) (base := base) T)
  refine ⟨p_, f_, fd_, R_, F_.binds (ps := ["self"]) (fun _ _ _ _ _ _ us hl => match us, hl with | [_], _ => rfl), ?_⟩
  refine F_.ok sc_Form_hessian (fun vs H Q E h => ?_) (fun cdv A outer s H vs Q E hr h => ?_)
  · first | (obtain ⟨rfl, _⟩ := h; rfl) | (obtain ⟨_, rfl, _⟩ := h; rfl) | (obtain ⟨_, _, rfl, _⟩ := h; rfl) | (obtain ⟨_, _, _, rfl, _⟩ := h; rfl) | (obtain ⟨_, _, _, _, rfl, _⟩ := h; rfl) | (obtain ⟨_, _, _, _, _, rfl, _⟩ := h; rfl) | (obtain ⟨_, _, _, _, _, _, rfl, _⟩ := h; rfl) | (obtain ⟨_, _, _, _, _, _, _, rfl, _⟩ := h; rfl) | (obtain ⟨_, _, _, _, _, _, _, _, rfl, _⟩ := h; rfl) | (obtain ⟨_, _, _, _, _, _, _, _, _, rfl, _⟩ := h; rfl) | (obtain ⟨_, _, _, _, _, _, _, _, _, _, rfl, _⟩ := h; rfl) | (obtain ⟨_, _, _, _, _, _, _, _, _, _, _, rfl, _⟩ := h; rfl) | (obtain ⟨_, _, _, _, _, _, _, _, _, _, _, _, rfl, _⟩ := h; rfl) | (obtain ⟨_, _, _, _, _, _, _, _, _, _, _, _, _, rfl, _⟩ := h; rfl) | (obtain ⟨_, _, _, _, _, _, _, _, _, _, _, _, _, _, rfl, _⟩ := h; rfl) | (obtain ⟨_, _, _, _, _, _, _, _, _, _, _, _, _, _, _, rfl, _⟩ := h; rfl) | (obtain ⟨_, _, _, _, _, _, _, _, _, _, _, _, _, _, _, _, rfl, _⟩ := h; rfl) | (obtain ⟨_, _, _, _, _, _, _, _, _, _, _, _, _, _, _, _, _, rfl, _⟩ := h; rfl) | (obtain ⟨_, _, _, _, _, _, _, _, _, _, _, _, _, _, _, _, _, _, rfl, _⟩ := h; rfl) | (obtain ⟨_, _, _, _, _, _, _, _, _, _, _, _, _, _, _, _, _, _, _, rfl, _⟩ := h; rfl) | (obtain ⟨_, _, _, _, _, _, _, _, _, _, _, _, _, _, _, _, _, _, _, _, rfl, _⟩ := h; rfl) | (obtain ⟨_, _, _, _, _, _, _, _, _, _, _, _, _, _, _, _, _, _, _, _, _, rfl, _⟩ := h; rfl) | (obtain ⟨_, _, _, _, _, _, _, _, _, _, _, _, _, _, _, _, _, _, _, _, _, _, rfl, _⟩ := h; rfl) | (obtain ⟨_, _, _, _, _, _, _, _, _, _, _, _, _, _, _, _, _, _, _, _, _, _, _, rfl, _⟩ := h; rfl)
  · obtain ⟨z, a, b, c, d, rfl, ⟨dx, t, hx, ht⟩, ba, bb, bc, bd, q⟩ := h
    refine ⟨_, (pss_one (ps_ret (pe_call G_double_of (hr.mono (by decide)) (by rfl) g_double_of k_double_of b_double_of .nil pass0 (pa_cons (pe_call G_form_hessian (hr.mono (by decide)) (by rfl) g_form_hessian k_form_hessian b_form_hessian .nil pass0 (pa_cons (pe_fld (pv 0) (by rfl)) pa_nil)) pa_nil)))), ?_⟩
    refine ⟨_, rfl, z, C_Form, dx, _, .ref t, rfl, hx, T.cl_Form, T.na_Form_coefficients, lk_same, t, a, b, c, d, rfl, ht, ba, bb, bc, bd, fun x H2 e2 hx2 => ?_⟩
    exact ⟨x, _, rfl, hx2, fun y H3 e3 hy => q y H3 (e2.trans e3) hy⟩
end
end TF
namespace TF
open PySem PySem.Spec PyProof.Rows L2 Fr
open K05M (fv fl2 fl3 fdisc)
open K06M
theorem showable_ints {ns : List Int} (h : ∀ n ∈ ns, n.natAbs.log2 < 1920) : (PyData.tuple (ns.map .int)).showable = true := by
  show PyData.showableAll (ns.map .int) = true
  induction ns with
  | nil => rfl
  | cons n l ih =>
    show (decide (n.natAbs.log2 < 1920) && PyData.showableAll (l.map .int)) = true
    rw [decide_eq_true (h n (by simp)), ih fun z hz => h z (List.mem_cons_of_mem _ hz)]
    rfl
theorem noDict_ints (ns : List Int) : (PyData.tuple (ns.map .int)).hasDict = false := by
  show PyData.hasDictAll (ns.map .int) = false
  induction ns with
  | nil => rfl
  | cons n l ih => exact ih
theorem depth_ints (ns : List Int) : (PyData.tuple (ns.map .int)).depth ≤ 40 := by
  have h : ∀ l : List Int, PyData.depthAll (l.map .int) = 0 := fun l => by
    induction l with
    | nil => rfl
    | cons n l ih =>
      show max 0 (PyData.depthAll (l.map .int)) = 0
      rw [ih]
      rfl
  show PyData.depthAll (ns.map .int) + 1 ≤ 40
  rw [h]
  decide
section
def sp_Double___str__ (_ : PySem.W.Frag) (C C_D : Addr) : Sp := fun vs H Q _ => ∃ (x : Addr) (ns : List Int), vs = [.ref x] ∧ FormAt C_D H x ns ∧ (∀ n ∈ ns, n.natAbs.log2 < 1920) ∧ (PyData.tuple (ns.map .int)).shown.length ≤ sizeLine ∧ Q (.str (PyData.tuple (ns.map .int)).shown) H
def sp_both (K : PySem.W.Frag) (C C_D : Addr) : Sp := fun vs H Q _ => ∃ (a b : Addr) (p q r s i j k m : Int), vs = [.ref a, .ref b] ∧ Tq K H a p q r s ∧ Tq K H b i j k m ∧ (B 800 p ∧ B 800 q ∧ B 800 r ∧ B 800 s) ∧ (B 800 i ∧ B 800 j ∧ B 800 k ∧ B 800 m) ∧ ∀ x H', Ex0 H H' → T4 H' x (i * p + j * r) (i * q + j * s) (k * p + m * r) (k * q + m * s) → Q (.ref x) H'
def sp_taken_back (_ : PySem.W.Frag) (C C_D : Addr) : Sp := fun vs H Q _ => ∃ (a : Addr) (p q r s : Int), vs = [.ref a] ∧ T4 H a p q r s ∧ (B 200 p ∧ B 200 q ∧ B 200 r ∧ B 200 s) ∧ ∀ x H', Ex0 H H' → T4 H' x ((p * s - q * r) * s) (-(p * s - q * r) * q) (-(p * s - q * r) * r) ((p * s - q * r) * p) → Q (.ref x) H'
def sp_joined (_ : PySem.W.Frag) (C C_D : Addr) : Sp := fun vs H Q _ => ∃ (a b : Addr) (p q r s i j k m : Int), vs = [.ref a, .ref b] ∧ T4 H a p q r s ∧ T4 H b i j k m ∧ ChOk p q r s ∧ ChOk i j k m ∧ ∀ x H', Ex0 H H' → T4 H' x (i * p + j * r) (i * q + j * s) (k * p + m * r) (k * q + m * s) → Q (.ref x) H'
def sp_undone (_ : PySem.W.Frag) (C C_D : Addr) : Sp := fun vs H Q _ => ∃ (a : Addr) (p q r s : Int), vs = [.ref a] ∧ T4 H a p q r s ∧ ChOk p q r s ∧ ∀ x H', Ex0 H H' → T4 H' x ((p * s - q * r) * s) (-(p * s - q * r) * q) (-(p * s - q * r) * r) ((p * s - q * r) * p) → Q (.ref x) H'
def sp_shared_divisor (_ : PySem.W.Frag) (C C_D : Addr) : Sp := fun vs H Q _ => ∃ (a : Addr) (ns : List Int), vs = [.ref a] ∧ Ti H a ns ∧ Q (.int (gcdL ns : Nat)) H
def sp_Form_content (_ : PySem.W.Frag) (C C_D : Addr) : Sp := fun vs H Q _ => ∃ (x : Addr) (ns : List Int), vs = [.ref x] ∧ FormAt C H x ns ∧ Q (.int (gcdL ns : Nat)) H
def sp_Form___neg__ (_ : PySem.W.Frag) (C C_D : Addr) : Sp := fun vs H Q _ => ∃ (z : Addr) (ns : List Int), vs = [.ref z] ∧ FormAt C H z ns ∧ ns.length ≤ 1000 ∧ ∀ x H', Ex0 H H' → FormAt C H' x (ns.map fun n => -n) → Q (.ref x) H'
def sp_Double_content (_ : PySem.W.Frag) (C C_D : Addr) : Sp := fun vs H Q _ => ∃ (x : Addr) (ns : List Int), vs = [.ref x] ∧ FormAt C_D H x ns ∧ Q (.int (gcdL ns : Nat)) H
def sp_Double___neg__ (_ : PySem.W.Frag) (C C_D : Addr) : Sp := fun vs H Q _ => ∃ (z : Addr) (ns : List Int), vs = [.ref z] ∧ FormAt C_D H z ns ∧ ns.length ≤ 1000 ∧ ∀ x H', Ex0 H H' → FormAt C_D H' x (ns.map fun n => -n) → Q (.ref x) H'
end
section
variable {P : Program} {w : World} {K : PySem.W.Frag} {mg : Str → Option Value} {base : Heap} {C_Form C_Double : Addr}
theorem ok_both (T : Txt K mg C_Form C_Double) : Def P w K mg base 1 "both" ["first", "second"] (sp_both K C_Form C_Double) := by
  obtain ⟨f_, fd_, g_, F_⟩ := T.d_both
  refine ⟨f_, fd_, g_, F_.kp, F_.binds (ps := ["first", "second"]) (fun _ _ _ _ _ _ us hl => match us, hl with | [_, _], _ => rfl), ?_⟩
  refine F_.ok sc_both (fun vs H Q E h => ?_) (fun cdv A outer s H vs Q E hr h => ?_)
  · first | (obtain ⟨rfl, _⟩ := h; rfl) | (obtain ⟨_, rfl, _⟩ := h; rfl) | (obtain ⟨_, _, rfl, _⟩ := h; rfl) | (obtain ⟨_, _, _, rfl, _⟩ := h; rfl) | (obtain ⟨_, _, _, _, rfl, _⟩ := h; rfl) | (obtain ⟨_, _, _, _, _, rfl, _⟩ := h; rfl) | (obtain ⟨_, _, _, _, _, _, rfl, _⟩ := h; rfl) | (obtain ⟨_, _, _, _, _, _, _, rfl, _⟩ := h; rfl) | (obtain ⟨_, _, _, _, _, _, _, _, rfl, _⟩ := h; rfl) | (obtain ⟨_, _, _, _, _, _, _, _, _, rfl, _⟩ := h; rfl) | (obtain ⟨_, _, _, _, _, _, _, _, _, _, rfl, _⟩ := h; rfl) | (obtain ⟨_, _, _, _, _, _, _, _, _, _, _, rfl, _⟩ := h; rfl) | (obtain ⟨_, _, _, _, _, _, _, _, _, _, _, _, rfl, _⟩ := h; rfl) | (obtain ⟨_, _, _, _, _, _, _, _, _, _, _, _, _, rfl, _⟩ := h; rfl) | (obtain ⟨_, _, _, _, _, _, _, _, _, _, _, _, _, _, rfl, _⟩ := h; rfl) | (obtain ⟨_, _, _, _, _, _, _, _, _, _, _, _, _, _, _, rfl, _⟩ := h; rfl) | (obtain ⟨_, _, _, _, _, _, _, _, _, _, _, _, _, _, _, _, rfl, _⟩ := h; rfl) | (obtain ⟨_, _, _, _, _, _, _, _, _, _, _, _, _, _, _, _, _, rfl, _⟩ := h; rfl) | (obtain ⟨_, _, _, _, _, _, _, _, _, _, _, _, _, _, _, _, _, _, rfl, _⟩ := h; rfl) | (obtain ⟨_, _, _, _, _, _, _, _, _, _, _, _, _, _, _, _, _, _, _, rfl, _⟩ := h; rfl) | (obtain ⟨_, _, _, _, _, _, _, _, _, _, _, _, _, _, _, _, _, _, _, _, rfl, _⟩ := h; rfl) | (obtain ⟨_, _, _, _, _, _, _, _, _, _, _, _, _, _, _, _, _, _, _, _, _, rfl, _⟩ := h; rfl) | (obtain ⟨_, _, _, _, _, _, _, _, _, _, _, _, _, _, _, _, _, _, _, _, _, _, rfl, _⟩ := h; rfl) | (obtain ⟨_, _, _, _, _, _, _, _, _, _, _, _, _, _, _, _, _, _, _, _, _, _, _, rfl, _⟩ := h; rfl)
  · obtain ⟨a, b, p, q', r, s', i, j, k, m, rfl, h4, h4', ⟨bp, bq, br, bs⟩, ⟨bi, bj, bk, bm⟩, q⟩ := h
    refine ⟨_, (pss_cons (ps_asg (pv 0) (pg_tup (by rfl) (pgs_cons (pg_tup (by rfl) (pgs_cons (pg_name (i := 2) sc_both.nd rfl (.inl rfl)) (pgs_cons (pg_name (i := 3) sc_both.nd rfl (.inl rfl)) pgs_nil))) (pgs_cons (pg_tup (by rfl) (pgs_cons (pg_name (i := 4) sc_both.nd rfl (.inl rfl)) (pgs_cons (pg_name (i := 5) sc_both.nd rfl (.inl rfl)) pgs_nil))) pgs_nil))))
    (pss_cons (ps_asg (pv 1) (pg_tup (by rfl) (pgs_cons (pg_tup (by rfl) (pgs_cons (pg_name (i := 6) sc_both.nd rfl (.inl rfl)) (pgs_cons (pg_name (i := 7) sc_both.nd rfl (.inl rfl)) pgs_nil))) (pgs_cons (pg_tup (by rfl) (pgs_cons (pg_name (i := 8) sc_both.nd rfl (.inl rfl)) (pgs_cons (pg_name (i := 9) sc_both.nd rfl (.inl rfl)) pgs_nil))) pgs_nil))))
    (pss_one (ps_ret (pe_tup (pa_cons (pe_tup (pa_cons (pe_op op_add (pe_op op_mulW (pv 6) (pv 2)) (pe_op op_mulW (pv 7) (pv 4))) (pa_cons (pe_op op_add (pe_op op_mulW (pv 6) (pv 3)) (pe_op op_mulW (pv 7) (pv 5))) pa_nil))) (pa_cons (pe_tup (pa_cons (pe_op op_add (pe_op op_mulW (pv 8) (pv 2)) (pe_op op_mulW (pv 9) (pv 4))) (pa_cons (pe_op op_add (pe_op op_mulW (pv 8) (pv 3)) (pe_op op_mulW (pv 9) (pv 5))) pa_nil))) pa_nil))))))), ?_⟩
    refine ⟨_, rfl, unq h4 ?_⟩
    refine ⟨_, rfl, unq h4' ?_⟩
    refine ⟨_, rfl, _, rfl, _, _, rfl, rfl, mulB (by with_reducible assumption) (by with_reducible assumption) (by decide), _, rfl, _, rfl, _, _, rfl, rfl, mulB (by with_reducible assumption) (by with_reducible assumption) (by decide), _, _, rfl, rfl, _, rfl, _, rfl, _, _, rfl, rfl, mulB (by with_reducible assumption) (by with_reducible assumption) (by decide), _, rfl, _, rfl, _, _, rfl, rfl, mulB (by with_reducible assumption) (by with_reducible assumption) (by decide), _, _, rfl, rfl, sl2, fun t1 n1 => ⟨_, rfl, _, rfl, _, _, rfl, rfl, mulB (by with_reducible assumption) (by with_reducible assumption) (by decide), _, rfl, _, rfl, _, _, rfl, rfl, mulB (by with_reducible assumption) (by with_reducible assumption) (by decide), _, _, rfl, rfl, _, rfl, _, rfl, _, _, rfl, rfl, mulB (by with_reducible assumption) (by with_reducible assumption) (by decide), _, rfl, _, rfl, _, _, rfl, rfl, mulB (by with_reducible assumption) (by with_reducible assumption) (by decide), _, _, rfl, rfl, sl2, fun t2 n2 => ⟨sl2, fun x nx => ?_⟩⟩⟩
    have z := t4_new n1 n2 nx
    exact q x _ z.1 z.2
theorem ok_shared_divisor (T : Txt K mg C_Form C_Double) : Def P w K mg base 1 "shared_divisor" ["numbers"] (sp_shared_divisor K C_Form C_Double) := by
  obtain ⟨f_, fd_, g_, F_⟩ := T.d_shared_divisor
  refine ⟨f_, fd_, g_, F_.kp, F_.binds (ps := ["numbers"]) (fun _ _ _ _ _ _ us hl => match us, hl with | [_], _ => rfl), ?_⟩
  refine F_.ok sc_shared_divisor (fun vs H Q E h => ?_) (fun cdv A outer s H vs Q E hr h => ?_)
  · first | (obtain ⟨rfl, _⟩ := h; rfl) | (obtain ⟨_, rfl, _⟩ := h; rfl) | (obtain ⟨_, _, rfl, _⟩ := h; rfl) | (obtain ⟨_, _, _, rfl, _⟩ := h; rfl) | (obtain ⟨_, _, _, _, rfl, _⟩ := h; rfl) | (obtain ⟨_, _, _, _, _, rfl, _⟩ := h; rfl) | (obtain ⟨_, _, _, _, _, _, rfl, _⟩ := h; rfl) | (obtain ⟨_, _, _, _, _, _, _, rfl, _⟩ := h; rfl) | (obtain ⟨_, _, _, _, _, _, _, _, rfl, _⟩ := h; rfl) | (obtain ⟨_, _, _, _, _, _, _, _, _, rfl, _⟩ := h; rfl) | (obtain ⟨_, _, _, _, _, _, _, _, _, _, rfl, _⟩ := h; rfl) | (obtain ⟨_, _, _, _, _, _, _, _, _, _, _, rfl, _⟩ := h; rfl) | (obtain ⟨_, _, _, _, _, _, _, _, _, _, _, _, rfl, _⟩ := h; rfl) | (obtain ⟨_, _, _, _, _, _, _, _, _, _, _, _, _, rfl, _⟩ := h; rfl) | (obtain ⟨_, _, _, _, _, _, _, _, _, _, _, _, _, _, rfl, _⟩ := h; rfl) | (obtain ⟨_, _, _, _, _, _, _, _, _, _, _, _, _, _, _, rfl, _⟩ := h; rfl) | (obtain ⟨_, _, _, _, _, _, _, _, _, _, _, _, _, _, _, _, rfl, _⟩ := h; rfl) | (obtain ⟨_, _, _, _, _, _, _, _, _, _, _, _, _, _, _, _, _, rfl, _⟩ := h; rfl) | (obtain ⟨_, _, _, _, _, _, _, _, _, _, _, _, _, _, _, _, _, _, rfl, _⟩ := h; rfl) | (obtain ⟨_, _, _, _, _, _, _, _, _, _, _, _, _, _, _, _, _, _, _, rfl, _⟩ := h; rfl) | (obtain ⟨_, _, _, _, _, _, _, _, _, _, _, _, _, _, _, _, _, _, _, _, rfl, _⟩ := h; rfl) | (obtain ⟨_, _, _, _, _, _, _, _, _, _, _, _, _, _, _, _, _, _, _, _, _, rfl, _⟩ := h; rfl) | (obtain ⟨_, _, _, _, _, _, _, _, _, _, _, _, _, _, _, _, _, _, _, _, _, _, rfl, _⟩ := h; rfl) | (obtain ⟨_, _, _, _, _, _, _, _, _, _, _, _, _, _, _, _, _, _, _, _, _, _, _, rfl, _⟩ := h; rfl)
  · obtain ⟨a, ns, rfl, ha, q⟩ := h
    refine ⟨_, (pss_cons (ps_set (i := 1) sc_shared_divisor.nd rfl (.inl rfl) pe_int)
    (pss_cons (ps_for PassesOwn.never rfl (pi_tup (pv 0)) (pg_name (i := 2) sc_shared_divisor.nd rfl (.inl rfl))
      (pss_one (ps_set (i := 1) sc_shared_divisor.nd rfl (.inl rfl) (pe_callBfun cr_gcd (by rfl) T.m_gcd (pa_cons (pv 1) (pa_cons (pv 2) pa_nil))))))
    (pss_one (ps_ret (pv 1))))), ?_⟩
    refine ⟨_, rfl, a, rfl, ⟨_, SqT.of ha⟩, for_tup (xs := ns.map V.int) (fun i σ H' => ∃ y2, σ = [some (.ref a), some (.int (gcdL (ns.take i) : Nat)), y2] ∧ H = H') ⟨none, rfl, rfl⟩ (fun i σ H' _ ⟨_, _, e⟩ => e ▸ SqT.of ha) ?_ ?_⟩
    · rintro i x σ H' hx ⟨y2, rfl, rfl⟩
      obtain ⟨n, hn, rfl⟩ := get_int hx
      refine ⟨_, rfl, _, rfl, _, _, rfl, ?_⟩
      refine ⟨some (.int n), ?_, rfl⟩
      rw [gcdL_take hn]
      rfl
    · rintro σ H' ⟨y2, rfl, rfl⟩
      refine ⟨_, rfl, ?_⟩
      rw [List.length_map, List.take_length]
      exact q
theorem ok_Form_content (T : Txt K mg C_Form C_Double) : MDef (fun p f => PropOf K C_Form "content" p f) P w K mg base 2 ["self"] (sp_Form_content K C_Form C_Double) := by
  obtain ⟨p_, f_, fd_, R_, F_⟩ := T.e_Form_content
  obtain ⟨f_shared_divisor, fd_shared_divisor, g_shared_divisor, k_shared_divisor, b_shared_divisor, G_shared_divisor⟩ := (ok_shared_divisor (P := P) (w := w) (base := base) T)
  refine ⟨p_, f_, fd_, R_, F_.binds (ps := ["self"]) (fun _ _ _ _ _ _ us hl => match us, hl with | [_], _ => rfl), ?_⟩
  refine F_.ok sc_Form_content (fun vs H Q E h => ?_) (fun cdv A outer s H vs Q E hr h => ?_)
  · first | (obtain ⟨rfl, _⟩ := h; rfl) | (obtain ⟨_, rfl, _⟩ := h; rfl) | (obtain ⟨_, _, rfl, _⟩ := h; rfl) | (obtain ⟨_, _, _, rfl, _⟩ := h; rfl) | (obtain ⟨_, _, _, _, rfl, _⟩ := h; rfl) | (obtain ⟨_, _, _, _, _, rfl, _⟩ := h; rfl) | (obtain ⟨_, _, _, _, _, _, rfl, _⟩ := h; rfl) | (obtain ⟨_, _, _, _, _, _, _, rfl, _⟩ := h; rfl) | (obtain ⟨_, _, _, _, _, _, _, _, rfl, _⟩ := h; rfl) | (obtain ⟨_, _, _, _, _, _, _, _, _, rfl, _⟩ := h; rfl) | (obtain ⟨_, _, _, _, _, _, _, _, _, _, rfl, _⟩ := h; rfl) | (obtain ⟨_, _, _, _, _, _, _, _, _, _, _, rfl, _⟩ := h; rfl) | (obtain ⟨_, _, _, _, _, _, _, _, _, _, _, _, rfl, _⟩ := h; rfl) | (obtain ⟨_, _, _, _, _, _, _, _, _, _, _, _, _, rfl, _⟩ := h; rfl) | (obtain ⟨_, _, _, _, _, _, _, _, _, _, _, _, _, _, rfl, _⟩ := h; rfl) | (obtain ⟨_, _, _, _, _, _, _, _, _, _, _, _, _, _, _, rfl, _⟩ := h; rfl) | (obtain ⟨_, _, _, _, _, _, _, _, _, _, _, _, _, _, _, _, rfl, _⟩ := h; rfl) | (obtain ⟨_, _, _, _, _, _, _, _, _, _, _, _, _, _, _, _, _, rfl, _⟩ := h; rfl) | (obtain ⟨_, _, _, _, _, _, _, _, _, _, _, _, _, _, _, _, _, _, rfl, _⟩ := h; rfl) | (obtain ⟨_, _, _, _, _, _, _, _, _, _, _, _, _, _, _, _, _, _, _, rfl, _⟩ := h; rfl) | (obtain ⟨_, _, _, _, _, _, _, _, _, _, _, _, _, _, _, _, _, _, _, _, rfl, _⟩ := h; rfl) | (obtain ⟨_, _, _, _, _, _, _, _, _, _, _, _, _, _, _, _, _, _, _, _, _, rfl, _⟩ := h; rfl) | (obtain ⟨_, _, _, _, _, _, _, _, _, _, _, _, _, _, _, _, _, _, _, _, _, _, rfl, _⟩ := h; rfl) | (obtain ⟨_, _, _, _, _, _, _, _, _, _, _, _, _, _, _, _, _, _, _, _, _, _, _, rfl, _⟩ := h; rfl)
  · obtain ⟨x, ns, rfl, ⟨dx, t, hx, ht⟩, q⟩ := h
    refine ⟨_, (pss_one (ps_ret (pe_call G_shared_divisor (hr.mono (by decide)) (by rfl) g_shared_divisor k_shared_divisor b_shared_divisor .nil pass0 (pa_cons (pe_fld (pv 0) (by rfl)) pa_nil)))), ?_⟩
    exact ⟨_, rfl, x, C_Form, dx, _, .ref t, rfl, hx, T.cl_Form, T.na_Form_coefficients, lk_same, t, ns, rfl, ht, q⟩
theorem ok_Double_content (T : Txt K mg C_Form C_Double) : MDef (fun p f => PropOf K C_Double "content" p f) P w K mg base 2 ["self"] (sp_Double_content K C_Form C_Double) := by
  obtain ⟨p_, f_, fd_, R_, F_⟩ := T.e_Double_content
  obtain ⟨f_shared_divisor, fd_shared_divisor, g_shared_divisor, k_shared_divisor, b_shared_divisor, G_shared_divisor⟩ := (ok_shared_divisor (P := P) (w := w) (base := base) T)
  refine ⟨p_, f_, fd_, R_, F_.binds (ps := ["self"]) (fun _ _ _ _ _ _ us hl => match us, hl with | [_], _ => rfl), ?_⟩
  refine F_.ok sc_Double_content (fun vs H Q E h => ?_) (fun cdv A outer s H vs Q E hr h => ?_)
  · first | (obtain ⟨rfl, _⟩ := h; rfl) | (obtain ⟨_, rfl, _⟩ := h; rfl) | (obtain ⟨_, _, rfl, _⟩ := h; rfl) | (obtain ⟨_, _, _, rfl, _⟩ := h; rfl) | (obtain ⟨_, _, _, _, rfl, _⟩ := h; rfl) | (obtain ⟨_, _, _, _, _, rfl, _⟩ := h; rfl) | (obtain ⟨_, _, _, _, _, _, rfl, _⟩ := h; rfl) | (obtain ⟨_, _, _, _, _, _, _, rfl, _⟩ := h; rfl) | (obtain ⟨_, _, _, _, _, _, _, _, rfl, _⟩ := h; rfl) | (obtain ⟨_, _, _, _, _, _, _, _, _, rfl, _⟩ := h; rfl) | (obtain ⟨_, _, _, _, _, _, _, _, _, _, rfl, _⟩ := h; rfl) | (obtain ⟨_, _, _, _, _, _, _, _, _, _, _, rfl, _⟩ := h; rfl) | (obtain ⟨_, _, _, _, _, _, _, _, _, _, _, _, rfl, _⟩ := h; rfl) | (obtain ⟨_, _, _, _, _, _, _, _, _, _, _, _, _, rfl, _⟩ := h; rfl) | (obtain ⟨_, _, _, _, _, _, _, _, _, _, _, _, _, _, rfl, _⟩ := h; rfl) | (obtain ⟨_, _, _, _, _, _, _, _, _, _, _, _, _, _, _, rfl, _⟩ := h; rfl) | (obtain ⟨_, _, _, _, _, _, _, _, _, _, _, _, _, _, _, _, rfl, _⟩ := h; rfl) | (obtain ⟨_, _, _, _, _, _, _, _, _, _, _, _, _, _, _, _, _, rfl, _⟩ := h; rfl) | (obtain ⟨_, _, _, _, _, _, _, _, _, _, _, _, _, _, _, _, _, _, rfl, _⟩ := h; rfl) | (obtain ⟨_, _, _, _, _, _, _, _, _, _, _, _, _, _, _, _, _, _, _, rfl, _⟩ := h; rfl) | (obtain ⟨_, _, _, _, _, _, _, _, _, _, _, _, _, _, _, _, _, _, _, _, rfl, _⟩ := h; rfl) | (obtain ⟨_, _, _, _, _, _, _, _, _, _, _, _, _, _, _, _, _, _, _, _, _, rfl, _⟩ := h; rfl) | (obtain ⟨_, _, _, _, _, _, _, _, _, _, _, _, _, _, _, _, _, _, _, _, _, _, rfl, _⟩ := h; rfl) | (obtain ⟨_, _, _, _, _, _, _, _, _, _, _, _, _, _, _, _, _, _, _, _, _, _, _, rfl, _⟩ := h; rfl)
  · obtain ⟨x, ns, rfl, ⟨dx, t, hx, ht⟩, q⟩ := h
    refine ⟨_, (pss_one (ps_ret (pe_call G_shared_divisor (hr.mono (by decide)) (by rfl) g_shared_divisor k_shared_divisor b_shared_divisor .nil pass0 (pa_cons (pe_fld (pv 0) (by rfl)) pa_nil)))), ?_⟩
    exact ⟨_, rfl, x, C_Double, dx, _, .ref t, rfl, hx, T.cl_Double, T.na_Double_coefficients, lk_same, t, ns, rfl, ht, q⟩
theorem ok_Form___neg__ (T : Txt K mg C_Form C_Double) : MDef (fun p f => Meth K C_Form "__neg__" f) P w K mg base 7 ["self"] (sp_Form___neg__ K C_Form C_Double) := by
  obtain ⟨p_, f_, fd_, R_, F_⟩ := T.e_Form___neg__
  obtain ⟨f_form_of, fd_form_of, g_form_of, k_form_of, b_form_of, G_form_of⟩ := (ok_form_of (P := P) (w := w) (base := base) T)
  refine ⟨p_, f_, fd_, R_, F_.binds (ps := ["self"]) (fun _ _ _ _ _ _ us hl => match us, hl with | [_], _ => rfl), ?_⟩
  refine F_.ok sc_Form___neg__ (fun vs H Q E h => ?_) (fun cdv A outer s H vs Q E hr h => ?_)
  · first | (obtain ⟨rfl, _⟩ := h; rfl) | (obtain ⟨_, rfl, _⟩ := h; rfl) | (obtain ⟨_, _, rfl, _⟩ := h; rfl) | (obtain ⟨_, _, _, rfl, _⟩ := h; rfl) | (obtain ⟨_, _, _, _, rfl, _⟩ := h; rfl) | (obtain ⟨_, _, _, _, _, rfl, _⟩ := h; rfl) | (obtain ⟨_, _, _, _, _, _, rfl, _⟩ := h; rfl) | (obtain ⟨_, _, _, _, _, _, _, rfl, _⟩ := h; rfl) | (obtain ⟨_, _, _, _, _, _, _, _, rfl, _⟩ := h; rfl) | (obtain ⟨_, _, _, _, _, _, _, _, _, rfl, _⟩ := h; rfl) | (obtain ⟨_, _, _, _, _, _, _, _, _, _, rfl, _⟩ := h; rfl) | (obtain ⟨_, _, _, _, _, _, _, _, _, _, _, rfl, _⟩ := h; rfl) | (obtain ⟨_, _, _, _, _, _, _, _, _, _, _, _, rfl, _⟩ := h; rfl) | (obtain ⟨_, _, _, _, _, _, _, _, _, _, _, _, _, rfl, _⟩ := h; rfl) | (obtain ⟨_, _, _, _, _, _, _, _, _, _, _, _, _, _, rfl, _⟩ := h; rfl) | (obtain ⟨_, _, _, _, _, _, _, _, _, _, _, _, _, _, _, rfl, _⟩ := h; rfl) | (obtain ⟨_, _, _, _, _, _, _, _, _, _, _, _, _, _, _, _, rfl, _⟩ := h; rfl) | (obtain ⟨_, _, _, _, _, _, _, _, _, _, _, _, _, _, _, _, _, rfl, _⟩ := h; rfl) | (obtain ⟨_, _, _, _, _, _, _, _, _, _, _, _, _, _, _, _, _, _, rfl, _⟩ := h; rfl) | (obtain ⟨_, _, _, _, _, _, _, _, _, _, _, _, _, _, _, _, _, _, _, rfl, _⟩ := h; rfl) | (obtain ⟨_, _, _, _, _, _, _, _, _, _, _, _, _, _, _, _, _, _, _, _, rfl, _⟩ := h; rfl) | (obtain ⟨_, _, _, _, _, _, _, _, _, _, _, _, _, _, _, _, _, _, _, _, _, rfl, _⟩ := h; rfl) | (obtain ⟨_, _, _, _, _, _, _, _, _, _, _, _, _, _, _, _, _, _, _, _, _, _, rfl, _⟩ := h; rfl) | (obtain ⟨_, _, _, _, _, _, _, _, _, _, _, _, _, _, _, _, _, _, _, _, _, _, _, rfl, _⟩ := h; rfl)
  · obtain ⟨z, ns, rfl, ⟨dx, t, hx, ht⟩, hl, q⟩ := h
    refine ⟨_, (pss_one (ps_ret (pe_call G_form_of (hr.mono (by decide)) (by rfl) g_form_of k_form_of b_form_of .nil pass0 (pa_cons (pe_callTy call_tuple_of (by rfl) T.b_tuple (by decide +kernel) (pa_cons (pe_lc (own := [("number", 1)]) (g := (gName 1)) rfl sc_Form___neg__.nd (pi_tup (pe_fld (pv 0) (by rfl))) (blkOk_by (N := N_Form___neg__) (sc := defScope s_Form___neg__) (by decide +kernel)) (fun _ _ _ _ _ => (pg_name (i := 1) sc_Form___neg__.nd rfl (.inl rfl))) (fun _ _ _ _ _ => pts_nil) (fun _ _ _ _ _ => (pe_un un_neg (pv 1)))) pa_nil)) pa_nil)))), ?_⟩
    refine ⟨_, rfl, z, C_Form, dx, _, .ref t, rfl, hx, T.cl_Form, T.na_Form_coefficients, lk_same, t, rfl, ⟨_, SqT.of ht⟩, ?_⟩
    refine lcT fm0 trivial (SqT.of ht) (fun z => z) (fun i acc _ => acc = ((ns.take i).map fun n => -n).map V.int) (fun _ _ => rfl) (fun D i x acc H' hD hx' e hA hlen hp => ?_) (fun D H' acc hD e hA hp => ?_)
    · obtain ⟨n, hn, rfl⟩ := get_int hx'
      have hi := (List.getElem?_eq_some_iff.mp hn).1
      refine ⟨rfl, ?_⟩
      refine ⟨_, rfl, n, rfl, ?_⟩
      refine cs_yes fm0 trivial hD e hA hlen (by omega) (Fx.refl trivial) ?_
      rw [hp, List.take_add_one, hn, List.map_append, List.map_append]
      rfl
    · rw [List.length_map, List.take_length] at hp
      subst hp
      refine ⟨D, _, rfl, .inl ⟨SqL.of hA, fun p np => ?_⟩⟩
      exact ⟨p, ns.map fun n => -n, rfl, upd_same, fun x H3 e3 hx3 => q x H3 ((e.trans (Ex0.new np)).trans e3) hx3⟩
theorem ok_Double___neg__ (T : Txt K mg C_Form C_Double) : MDef (fun p f => Meth K C_Double "__neg__" f) P w K mg base 7 ["self"] (sp_Double___neg__ K C_Form C_Double) := by
  obtain ⟨p_, f_, fd_, R_, F_⟩ := T.e_Double___neg__
  obtain ⟨f_double_of, fd_double_of, g_double_of, k_double_of, b_double_of, G_double_of⟩ := (ok_double_of (P := P) (w := w) (base := base) T)
  refine ⟨p_, f_, fd_, R_, F_.binds (ps := ["self"]) (fun _ _ _ _ _ _ us hl => match us, hl with | [_], _ => rfl), ?_⟩
  refine F_.ok sc_Double___neg__ (fun vs H Q E h => ?_) (fun cdv A outer s H vs Q E hr h => ?_)
  · first | (obtain ⟨rfl, _⟩ := h; rfl) | (obtain ⟨_, rfl, _⟩ := h; rfl) | (obtain ⟨_, _, rfl, _⟩ := h; rfl) | (obtain ⟨_, _, _, rfl, _⟩ := h; rfl) | (obtain ⟨_, _, _, _, rfl, _⟩ := h; rfl) | (obtain ⟨_, _, _, _, _, rfl, _⟩ := h; rfl) | (obtain ⟨_, _, _, _, _, _, rfl, _⟩ := h; rfl) | (obtain ⟨_, _, _, _, _, _, _, rfl, _⟩ := h; rfl) | (obtain ⟨_, _, _, _, _, _, _, _, rfl, _⟩ := h; rfl) | (obtain ⟨_, _, _, _, _, _, _, _, _, rfl, _⟩ := h; rfl) | (obtain ⟨_, _, _, _, _, _, _, _, _, _, rfl, _⟩ := h; rfl) | (obtain ⟨_, _, _, _, _, _, _, _, _, _, _, rfl, _⟩ := h; rfl) | (obtain ⟨_, _, _, _, _, _, _, _, _, _, _, _, rfl, _⟩ := h; rfl) | (obtain ⟨_, _, _, _, _, _, _, _, _, _, _, _, _, rfl, _⟩ := h; rfl) | (obtain ⟨_, _, _, _, _, _, _, _, _, _, _, _, _, _, rfl, _⟩ := h; rfl) | (obtain ⟨_, _, _, _, _, _, _, _, _, _, _, _, _, _, _, rfl, _⟩ := h; rfl) | (obtain ⟨_, _, _, _, _, _, _, _, _, _, _, _, _, _, _, _, rfl, _⟩ := h; rfl) | (obtain ⟨_, _, _, _, _, _, _, _, _, _, _, _, _, _, _, _, _, rfl, _⟩ := h; rfl) | (obtain ⟨_, _, _, _, _, _, _, _, _, _, _, _, _, _, _, _, _, _, rfl, _⟩ := h; rfl) | (obtain ⟨_, _, _, _, _, _, _, _, _, _, _, _, _, _, _, _, _, _, _, rfl, _⟩ := h; rfl) | (obtain ⟨_, _, _, _, _, _, _, _, _, _, _, _, _, _, _, _, _, _, _, _, rfl, _⟩ := h; rfl) | (obtain ⟨_, _, _, _, _, _, _, _, _, _, _, _, _, _, _, _, _, _, _, _, _, rfl, _⟩ := h; rfl) | (obtain ⟨_, _, _, _, _, _, _, _, _, _, _, _, _, _, _, _, _, _, _, _, _, _, rfl, _⟩ := h; rfl) | (obtain ⟨_, _, _, _, _, _, _, _, _, _, _, _, _, _, _, _, _, _, _, _, _, _, _, rfl, _⟩ := h; rfl)
  · obtain ⟨z, ns, rfl, ⟨dx, t, hx, ht⟩, hl, q⟩ := h
    refine ⟨_, (pss_one (ps_ret (pe_call G_double_of (hr.mono (by decide)) (by rfl) g_double_of k_double_of b_double_of .nil pass0 (pa_cons (pe_callTy call_tuple_of (by rfl) T.b_tuple (by decide +kernel) (pa_cons (pe_lc (own := [("number", 1)]) (g := (gName 1)) rfl sc_Double___neg__.nd (pi_tup (pe_fld (pv 0) (by rfl))) (blkOk_by (N := N_Double___neg__) (sc := defScope s_Double___neg__) (by decide +kernel)) (fun _ _ _ _ _ => (pg_name (i := 1) sc_Double___neg__.nd rfl (.inl rfl))) (fun _ _ _ _ _ => pts_nil) (fun _ _ _ _ _ => (pe_un un_neg (pv 1)))) pa_nil)) pa_nil)))), ?_⟩
    refine ⟨_, rfl, z, C_Double, dx, _, .ref t, rfl, hx, T.cl_Double, T.na_Double_coefficients, lk_same, t, rfl, ⟨_, SqT.of ht⟩, ?_⟩
    refine lcT fm0 trivial (SqT.of ht) (fun z => z) (fun i acc _ => acc = ((ns.take i).map fun n => -n).map V.int) (fun _ _ => rfl) (fun D i x acc H' hD hx' e hA hlen hp => ?_) (fun D H' acc hD e hA hp => ?_)
    · obtain ⟨n, hn, rfl⟩ := get_int hx'
      have hi := (List.getElem?_eq_some_iff.mp hn).1
      refine ⟨rfl, ?_⟩
      refine ⟨_, rfl, n, rfl, ?_⟩
      refine cs_yes fm0 trivial hD e hA hlen (by omega) (Fx.refl trivial) ?_
      rw [hp, List.take_add_one, hn, List.map_append, List.map_append]
      rfl
    · rw [List.length_map, List.take_length] at hp
      subst hp
      refine ⟨D, _, rfl, .inl ⟨SqL.of hA, fun p np => ?_⟩⟩
      exact ⟨p, ns.map fun n => -n, rfl, upd_same, fun x H3 e3 hx3 => q x H3 ((e.trans (Ex0.new np)).trans e3) hx3⟩
theorem ok_Double___str__ (T : Txt K mg C_Form C_Double) : Gd.MDefG (fun p f => Meth K C_Double "__str__" f) P w K mg base 1 ["self"] (sp_Double___str__ K C_Form C_Double) := by
  obtain ⟨p_, f_, fd_, R_, F_⟩ := T.e_Double___str__
  refine ⟨p_, f_, fd_, R_, F_.binds (ps := ["self"]) (fun _ _ _ _ _ _ us hl => match us, hl with | [_], _ => rfl), ?_⟩
  refine Gd.okG F_ sc_Double___str__ (fun vs H Q E h => ?_) (fun cdv A outer s H vs Q E hG hr h => ?_)
  · first | (obtain ⟨rfl, _⟩ := h; rfl) | (obtain ⟨_, rfl, _⟩ := h; rfl) | (obtain ⟨_, _, rfl, _⟩ := h; rfl) | (obtain ⟨_, _, _, rfl, _⟩ := h; rfl) | (obtain ⟨_, _, _, _, rfl, _⟩ := h; rfl) | (obtain ⟨_, _, _, _, _, rfl, _⟩ := h; rfl) | (obtain ⟨_, _, _, _, _, _, rfl, _⟩ := h; rfl) | (obtain ⟨_, _, _, _, _, _, _, rfl, _⟩ := h; rfl) | (obtain ⟨_, _, _, _, _, _, _, _, rfl, _⟩ := h; rfl) | (obtain ⟨_, _, _, _, _, _, _, _, _, rfl, _⟩ := h; rfl) | (obtain ⟨_, _, _, _, _, _, _, _, _, _, rfl, _⟩ := h; rfl) | (obtain ⟨_, _, _, _, _, _, _, _, _, _, _, rfl, _⟩ := h; rfl) | (obtain ⟨_, _, _, _, _, _, _, _, _, _, _, _, rfl, _⟩ := h; rfl) | (obtain ⟨_, _, _, _, _, _, _, _, _, _, _, _, _, rfl, _⟩ := h; rfl) | (obtain ⟨_, _, _, _, _, _, _, _, _, _, _, _, _, _, rfl, _⟩ := h; rfl) | (obtain ⟨_, _, _, _, _, _, _, _, _, _, _, _, _, _, _, rfl, _⟩ := h; rfl) | (obtain ⟨_, _, _, _, _, _, _, _, _, _, _, _, _, _, _, _, rfl, _⟩ := h; rfl) | (obtain ⟨_, _, _, _, _, _, _, _, _, _, _, _, _, _, _, _, _, rfl, _⟩ := h; rfl) | (obtain ⟨_, _, _, _, _, _, _, _, _, _, _, _, _, _, _, _, _, _, rfl, _⟩ := h; rfl) | (obtain ⟨_, _, _, _, _, _, _, _, _, _, _, _, _, _, _, _, _, _, _, rfl, _⟩ := h; rfl) | (obtain ⟨_, _, _, _, _, _, _, _, _, _, _, _, _, _, _, _, _, _, _, _, rfl, _⟩ := h; rfl) | (obtain ⟨_, _, _, _, _, _, _, _, _, _, _, _, _, _, _, _, _, _, _, _, _, rfl, _⟩ := h; rfl) | (obtain ⟨_, _, _, _, _, _, _, _, _, _, _, _, _, _, _, _, _, _, _, _, _, _, rfl, _⟩ := h; rfl) | (obtain ⟨_, _, _, _, _, _, _, _, _, _, _, _, _, _, _, _, _, _, _, _, _, _, _, rfl, _⟩ := h; rfl)
  · obtain ⟨x, ns, rfl, ⟨dx, t, hx, ht⟩, h1, h2, q⟩ := h
    refine ⟨_, (pss_one (ps_ret (pe_callTy (Gd.call_strD hG hr) (by rfl) T.b_str (by decide +kernel) (pa_cons (pe_fld (pv 0) (by rfl)) pa_nil)))), ?_⟩
    refine ⟨_, rfl, x, C_Double, dx, _, .ref t, rfl, hx, T.cl_Double, T.na_Double_coefficients, lk_same, ?_⟩
    exact ⟨t, .tuple (ns.map .int), rfl, .tup (SqT.of ht) (dp_ints _), showable_ints h1, noDict_ints ns, depth_ints ns, h2, q⟩
end
end TF
namespace TF
open PySem PySem.Spec PyProof.Rows L2 Fr
def Gd (i : Nat) (p q r s : Int) : Prop := p.natAbs ≤ 2 ^ (20 * i) ∧ q.natAbs ≤ 2 ^ (20 * i) ∧ r.natAbs ≤ 2 ^ (20 * i) ∧ s.natAbs ≤ 2 ^ (20 * i) ∧ (p * s - q * r = 1 ∨ p * s - q * r = -1)
def sp_l_cask (K : PySem.W.Frag) (_ _ : Addr) : Sp := fun vs H Q _ => ∃ (a : Addr) (ns : List Int) (i : Nat), vs = [.ref a, .int (i : Int)] ∧ SqL K H a (ns.map V.int) ∧ ∀ p H', H p = none → Ex0 H H' → Vat p H' → Q (.ref p) H'
def sp_l_tap (_ : PySem.W.Frag) (_ _ : Addr) : Sp := fun vs H Q _ => ∃ (c : Addr) (t : Int), vs = [.ref c, .int t] ∧ Vat c H ∧ 0 < t ∧ t < 2 ^ 250 ∧ ∀ (r : Int) H', 0 ≤ r → r < t → Fv c H H' → Q (.int r) H'
def sp_l_one (K : PySem.W.Frag) (_ _ : Addr) : Sp := fun vs H Q _ => ∃ (c l : Addr) (xs : List V), vs = [.ref c, .ref l] ∧ Vat c H ∧ H l = some (.lst xs) ∧ l ≠ c ∧ xs ≠ [] ∧ xs.length ≤ 1000 ∧ ∀ v H', v ∈ xs → Fv c H H' → Q v H'
def sp_l_number (_ : PySem.W.Frag) (_ _ : Addr) : Sp := fun vs H Q _ => ∃ c : Addr, vs = [.ref c] ∧ Vat c H ∧ ∀ (n : Int) H', n.natAbs ≤ 10000000000000000000000000 → Fv c H H' → Q (.int n) H'
def sp_l_entry (_ : PySem.W.Frag) (_ _ : Addr) : Sp := fun vs H Q _ => ∃ c : Addr, vs = [.ref c] ∧ Vat c H ∧ ∀ (n : Int) H', n.natAbs ≤ 100000000000000000 → Fv c H H' → Q (.int n) H'
def sp_l_numbers (_ : PySem.W.Frag) (_ _ : Addr) : Sp := fun vs H Q _ => ∃ (c : Addr) (k : Nat), vs = [.ref c, .int (k : Int)] ∧ Vat c H ∧ k ≤ 1000 ∧ ∀ (t : Addr) (ns : List Int) H', Fv c H H' → Ti H' t ns → ns.length = k → (∀ n ∈ ns, n.natAbs ≤ 10000000000000000000000000) → Q (.ref t) H'
def sp_l_then (_ : PySem.W.Frag) (_ _ : Addr) : Sp := fun vs H Q _ => ∃ (a b : Addr) (p q r s i j k m : Int), vs = [.ref a, .ref b] ∧ T4 H a p q r s ∧ T4 H b i j k m ∧ B 400 p ∧ B 400 q ∧ B 400 r ∧ B 400 s ∧ B 400 i ∧ B 400 j ∧ B 400 k ∧ B 400 m ∧ ∀ x H', Ex0 H H' → T4 H' x (i * p + j * r) (i * q + j * s) (k * p + m * r) (k * q + m * s) → Q (.ref x) H'
def sp_l_change (_ : PySem.W.Frag) (_ _ : Addr) : Sp := fun vs H Q _ => ∃ (c : Addr) (t : Nat), vs = [.ref c, .int (t : Int)] ∧ Vat c H ∧ t ≤ 4 ∧ ∀ x p q r s H', Fv c H H' → T4 H' x p q r s → Gd t p q r s → Q (.ref x) H'
def sp_l_sense (_ : PySem.W.Frag) (_ _ : Addr) : Sp := fun vs H Q _ => ∃ (a : Addr) (p q r s : Int), vs = [.ref a] ∧ T4 H a p q r s ∧ B 400 p ∧ B 400 q ∧ B 400 r ∧ B 400 s ∧ Q (.int (p * s - q * r)) H
def sp_l_common (_ : PySem.W.Frag) (_ _ : Addr) : Sp := fun vs H Q _ => ∃ (a : Addr) (ns : List Int), vs = [.ref a] ∧ Ti H a ns ∧ Q (.int (gcdL ns : Nat)) H
theorem Gd.b {i : Nat} {p q r s : Int} (h : Gd i p q r s) (hi : i ≤ 4) : B 81 p ∧ B 81 q ∧ B 81 r ∧ B 81 s := by
  have h1 : 2 ^ (20 * i) < 2 ^ 81 := Nat.pow_lt_pow_right (by decide) (by omega)
  obtain ⟨a, b, c, d, _⟩ := h
  exact ⟨⟨Nat.lt_of_le_of_lt a h1, by decide⟩, ⟨Nat.lt_of_le_of_lt b h1, by decide⟩, ⟨Nat.lt_of_le_of_lt c h1, by decide⟩, ⟨Nat.lt_of_le_of_lt d h1, by decide⟩⟩
theorem Gd.mono {i j : Nat} {p q r s : Int} (h : Gd i p q r s) (hi : i ≤ j) : Gd j p q r s := by
  have h1 : 2 ^ (20 * i) ≤ 2 ^ (20 * j) := Nat.pow_le_pow_right (by decide) (by omega)
  obtain ⟨a, b, c, d, e⟩ := h
  exact ⟨Nat.le_trans a h1, Nat.le_trans b h1, Nat.le_trans c h1, Nat.le_trans d h1, e⟩
def Pl (i j k m : Int) : Prop := ∃ z : Int, z.natAbs ≤ 1000098 ∧ ((i = 1 ∧ j = z ∧ k = 0 ∧ m = 1) ∨ (i = 1 ∧ j = 0 ∧ k = z ∧ m = 1) ∨ (i = 0 ∧ j = 1 ∧ k = 1 ∧ m = 0) ∨ (i = -1 ∧ j = 0 ∧ k = 0 ∧ m = 1) ∨ (i = 0 ∧ j = 1 ∧ k = -1 ∧ m = 0))
theorem near {M : Nat} {x y z : Int} (hx : x.natAbs ≤ M) (hy : y.natAbs ≤ M) (hz : z.natAbs ≤ 1000098) : (x + z * y).natAbs ≤ M * 1048576 := by
  have h1 : (z * y).natAbs ≤ 1000098 * M := by rw [Int.natAbs_mul]; exact Nat.mul_le_mul hz hy
  omega
theorem Gd.step {n : Nat} {p q r s i j k m : Int} (h : Gd n p q r s) (g : Pl i j k m) : Gd (n + 1) (i * p + j * r) (i * q + j * s) (k * p + m * r) (k * q + m * s) := by
  obtain ⟨a, b, c, d, e⟩ := h
  obtain ⟨z, hz, g⟩ := g
  unfold Gd
  rw [show 20 * (n + 1) = 20 * n + 20 by omega, Nat.pow_add, show (2 : Nat) ^ 20 = 1048576 by decide]
  generalize 2 ^ (20 * n) = M at *
  have hM : M ≤ M * 1048576 := by omega
  have one : ∀ x : Int, x.natAbs ≤ M → x.natAbs ≤ M * 1048576 := fun x hx => Nat.le_trans hx hM
  have det : (i * p + j * r) * (k * q + m * s) - (i * q + j * s) * (k * p + m * r) = (i * m - j * k) * (p * s - q * r) := by grind
  have dd : ∀ u : Int, i * m - j * k = u → (u = 1 ∨ u = -1) → ((i * p + j * r) * (k * q + m * s) - (i * q + j * s) * (k * p + m * r) = 1 ∨ (i * p + j * r) * (k * q + m * s) - (i * q + j * s) * (k * p + m * r) = -1) := fun u hu hv => by
    rw [det, hu]
    rcases hv with rfl | rfl <;> rcases e with e | e <;> rw [e] <;> decide
  rcases g with ⟨rfl, rfl, rfl, rfl⟩ | ⟨rfl, rfl, rfl, rfl⟩ | ⟨rfl, rfl, rfl, rfl⟩ | ⟨rfl, rfl, rfl, rfl⟩ | ⟨rfl, rfl, rfl, rfl⟩
  · refine ⟨?_, ?_, ?_, ?_, dd 1 (by omega) (.inl rfl)⟩
    · rw [Int.one_mul]; exact near a c hz
    · rw [Int.one_mul]; exact near b d hz
    · rw [show 0 * p + 1 * r = r by omega]; exact one _ c
    · rw [show 0 * q + 1 * s = s by omega]; exact one _ d
  · refine ⟨?_, ?_, ?_, ?_, dd 1 (by omega) (.inl rfl)⟩
    · rw [show 1 * p + 0 * r = p by omega]; exact one _ a
    · rw [show 1 * q + 0 * s = q by omega]; exact one _ b
    · rw [Int.one_mul, Int.add_comm]; exact near c a hz
    · rw [Int.one_mul, Int.add_comm]; exact near d b hz
  · refine ⟨?_, ?_, ?_, ?_, dd (-1) (by decide) (.inr rfl)⟩
    · rw [show 0 * p + 1 * r = r by omega]; exact one _ c
    · rw [show 0 * q + 1 * s = s by omega]; exact one _ d
    · rw [show 1 * p + 0 * r = p by omega]; exact one _ a
    · rw [show 1 * q + 0 * s = q by omega]; exact one _ b
  · refine ⟨?_, ?_, ?_, ?_, dd (-1) (by decide) (.inr rfl)⟩
    · rw [show -1 * p + 0 * r = -p by omega, Int.natAbs_neg]; exact one _ a
    · rw [show -1 * q + 0 * s = -q by omega, Int.natAbs_neg]; exact one _ b
    · rw [show 0 * p + 1 * r = r by omega]; exact one _ c
    · rw [show 0 * q + 1 * s = s by omega]; exact one _ d
  · refine ⟨?_, ?_, ?_, ?_, dd 1 (by decide) (.inl rfl)⟩
    · rw [show 0 * p + 1 * r = r by omega]; exact one _ c
    · rw [show 0 * q + 1 * s = s by omega]; exact one _ d
    · rw [show -1 * p + 0 * r = -p by omega, Int.natAbs_neg]; exact one _ a
    · rw [show -1 * q + 0 * s = -q by omega, Int.natAbs_neg]; exact one _ b
theorem Pl.b {i j k m : Int} (g : Pl i j k m) : B 400 i ∧ B 400 j ∧ B 400 k ∧ B 400 m := by
  obtain ⟨z, hz, g⟩ := g
  have bz : B 400 z := ⟨Nat.lt_of_le_of_lt hz (by decide), by decide⟩
  have b0 : B 400 0 := ⟨by decide, by decide⟩
  have b1 : B 400 1 := ⟨by decide, by decide⟩
  have b2 : B 400 (-1) := ⟨by decide, by decide⟩
  rcases g with ⟨rfl, rfl, rfl, rfl⟩ | ⟨rfl, rfl, rfl, rfl⟩ | ⟨rfl, rfl, rfl, rfl⟩ | ⟨rfl, rfl, rfl, rfl⟩ | ⟨rfl, rfl, rfl, rfl⟩ <;> refine ⟨?_, ?_, ?_, ?_⟩ <;> assumption
section
variable {P : Program} {w : World} {K : PySem.W.Frag} {mg : Str → Option Value} {base : Heap} {C_Form C_Double : Addr}
theorem ok_l_cask (T : Txt K mg C_Form C_Double) : Def P w K mg base 1 "_law_cask" ["_law_script", "_law_spot"] (sp_l_cask K C_Form C_Double) := by
  obtain ⟨f_, fd_, g_, F_⟩ := T.d_l_cask
  refine ⟨f_, fd_, g_, F_.kp, F_.binds (ps := ["_law_script", "_law_spot"]) (fun _ _ _ _ _ _ us hl => match us, hl with | [_, _], _ => rfl), ?_⟩
  refine F_.ok sc_l_cask (fun vs H Q E h => ?_) (fun cdv A outer s H vs Q E hr h => ?_)
  · first | (obtain ⟨rfl, _⟩ := h; rfl) | (obtain ⟨_, rfl, _⟩ := h; rfl) | (obtain ⟨_, _, rfl, _⟩ := h; rfl) | (obtain ⟨_, _, _, rfl, _⟩ := h; rfl) | (obtain ⟨_, _, _, _, rfl, _⟩ := h; rfl) | (obtain ⟨_, _, _, _, _, rfl, _⟩ := h; rfl) | (obtain ⟨_, _, _, _, _, _, rfl, _⟩ := h; rfl) | (obtain ⟨_, _, _, _, _, _, _, rfl, _⟩ := h; rfl) | (obtain ⟨_, _, _, _, _, _, _, _, rfl, _⟩ := h; rfl) | (obtain ⟨_, _, _, _, _, _, _, _, _, rfl, _⟩ := h; rfl) | (obtain ⟨_, _, _, _, _, _, _, _, _, _, rfl, _⟩ := h; rfl) | (obtain ⟨_, _, _, _, _, _, _, _, _, _, _, rfl, _⟩ := h; rfl) | (obtain ⟨_, _, _, _, _, _, _, _, _, _, _, _, rfl, _⟩ := h; rfl) | (obtain ⟨_, _, _, _, _, _, _, _, _, _, _, _, _, rfl, _⟩ := h; rfl) | (obtain ⟨_, _, _, _, _, _, _, _, _, _, _, _, _, _, rfl, _⟩ := h; rfl) | (obtain ⟨_, _, _, _, _, _, _, _, _, _, _, _, _, _, _, rfl, _⟩ := h; rfl) | (obtain ⟨_, _, _, _, _, _, _, _, _, _, _, _, _, _, _, _, rfl, _⟩ := h; rfl) | (obtain ⟨_, _, _, _, _, _, _, _, _, _, _, _, _, _, _, _, _, rfl, _⟩ := h; rfl) | (obtain ⟨_, _, _, _, _, _, _, _, _, _, _, _, _, _, _, _, _, _, rfl, _⟩ := h; rfl) | (obtain ⟨_, _, _, _, _, _, _, _, _, _, _, _, _, _, _, _, _, _, _, rfl, _⟩ := h; rfl) | (obtain ⟨_, _, _, _, _, _, _, _, _, _, _, _, _, _, _, _, _, _, _, _, rfl, _⟩ := h; rfl) | (obtain ⟨_, _, _, _, _, _, _, _, _, _, _, _, _, _, _, _, _, _, _, _, _, rfl, _⟩ := h; rfl) | (obtain ⟨_, _, _, _, _, _, _, _, _, _, _, _, _, _, _, _, _, _, _, _, _, _, rfl, _⟩ := h; rfl) | (obtain ⟨_, _, _, _, _, _, _, _, _, _, _, _, _, _, _, _, _, _, _, _, _, _, _, rfl, _⟩ := h; rfl)
  · obtain ⟨a, ns, i, rfl, ha, q⟩ := h
    refine ⟨_, (Evl.pss_cut (ps_set (i := 2) sc_l_cask.nd rfl (.inl rfl) (pe_ifExp (pt_cmpR op_lt (pv 1) (pe_callB call_len_seq (by rfl) T.b_len PySem.boot_len (pa_cons (pv 0) pa_nil)) (nomark _)) (pe_callTy call_int1 (by rfl) T.b_int (by decide +kernel) (pa_cons (pe_ix ix_list (pv 0) (pv 1) (fun _ _ => rfl)) pa_nil)) (pe_op op_add (pe_op op_add (pe_op op_mul pe_int (pv 1)) pe_int) (pe_op op_mod (pe_callTy call_int1 (by rfl) T.b_int (by decide +kernel) (pa_cons (pe_callB (cr_sum rfl) (by rfl) T.b_sum (by decide +kernel) (pa_cons (pe_slice sl_list (pv 0) po_none (po_some pe_int)) pa_nil)) pa_nil)) pe_int))))
    (pss_cons (ps_set (i := 3) sc_l_cask.nd rfl (.inl rfl) (pe_op op_mod (pe_callTy call_int1 (by rfl) T.b_int (by decide +kernel) (pa_cons (pe_callB call_abs (by rfl) T.b_abs (by decide +kernel) (pa_cons (pv 2) pa_nil)) pa_nil)) (pe_op op_powC (pe_op op_pow pe_int pe_int) pe_int)))
    (pss_cons (ps_set (i := 4) sc_l_cask.nd rfl (.inl rfl) (pe_op op_mod (pe_callTy call_int1 (by rfl) T.b_int (by decide +kernel) (pa_cons (pe_op op_add (pe_op op_add (pe_op op_add (pe_op op_mul (pe_op op_mod (pv 3) pe_int) pe_int) (pe_op op_mul pe_int (pv 1))) (pe_op op_mul pe_int (pe_callTy call_int1 (by rfl) T.b_int (by decide +kernel) (pa_cons (pe_cmpR op_lt (pv 2) pe_int (nomark _)) pa_nil)))) pe_int) pa_nil)) pe_int))
    (pss_one (ps_ret (pe_lst (pa_cons (pe_callB (call_max2 rfl) (by rfl) T.b_max (by decide +kernel) (pa_cons pe_int (pa_cons (pe_op op_sub (pv 3) (pe_op op_pow pe_int pe_int)) pa_nil))) (pa_cons (pv 4) (pa_cons pe_int pa_nil))))))))), ?_⟩
    refine ⟨fun σ H' => ∃ cell : Int, σ = [some (.ref a), some (.int (i : Int)), some (.int cell), none, none] ∧ Ex0 H H', ?_, ?_⟩
    · refine ⟨_, rfl, _, rfl, a, _, rfl, .inl ha, _, _, rfl, rfl, _, rfl, iteD (fun g => ?_) (fun g => ?_)⟩
      · have hi : i < ns.length := by rw [List.length_map] at g; omega
        refine ⟨_, rfl, _, rfl, a, _, (i : Int), .int ns[i], rfl, rfl, ha, atI_nat (by rw [List.getElem?_map, List.getElem?_eq_getElem hi]; rfl), .inl ⟨_, rfl, ?_⟩⟩
        exact ⟨_, rfl, Ex0.refl H⟩
      · refine ⟨_, rfl, _, _, rfl, rfl, .inl ⟨by decide, by decide⟩, _, _, rfl, rfl, ?_⟩
        refine ⟨_, rfl, _, rfl, a, _, rfl, ha, fun p np => ?_⟩
        refine ⟨p, _, rfl, SqL.of (by rw [upd_same, cut_map]), .inl ⟨_, rfl, ?_⟩⟩
        refine ⟨_, _, rfl, rfl, (show (0 : Int) < 1000037 by decide), _, _, rfl, rfl, ?_⟩
        exact ⟨_, rfl, Ex0.new np⟩
    · rintro σ H' ⟨cell, rfl, e⟩
      refine ⟨_, rfl, cell, rfl, .inl ⟨_, rfl, ?_⟩⟩
      refine ⟨_, _, rfl, rfl, ⟨by decide, by decide, by decide⟩, _, _, rfl, rfl, ⟨by decide, by decide +kernel⟩, _, _, rfl, rfl, by show (0 : Int) < (10 ^ 57) ^ 8; decide +kernel, ?_⟩
      refine ⟨_, rfl, _, _, rfl, rfl, (show (0 : Int) < 2305843009213693907 by decide), _, _, rfl, rfl, .inr ⟨by decide, by decide⟩, _, rfl, _, _, rfl, rfl, .inl ⟨by decide, by decide⟩, _, _, rfl, rfl, ?_⟩
      refine ⟨_, rfl, _, _, rfl, rfl, .inr ⟨_, rfl, _, _, rfl, rfl, .inl ⟨by decide, by decide⟩, _, _, rfl, rfl, _, _, rfl, rfl, ?_⟩⟩
      refine .inl ⟨_, rfl, _, _, rfl, rfl, (show (0 : Int) < 2305843009213693951 by decide), ?_⟩
      refine ⟨_, rfl, _, _, rfl, rfl, ⟨by decide, by decide, by decide⟩, _, _, rfl, rfl, _, _, rfl, _, rfl, sl3, fun p hp => ?_⟩
      exact q p _ (Fx.free e (fun z => z) hp) (e.trans (Ex0.new hp)) ⟨_, _, _, upd_same⟩
theorem ok_l_tap (T : Txt K mg C_Form C_Double) : Def P w K mg base 1 "_law_tap" ["_law_cask_here", "_law_many"] (sp_l_tap K C_Form C_Double) := by
  obtain ⟨f_, fd_, g_, F_⟩ := T.d_l_tap
  refine ⟨f_, fd_, g_, F_.kp, F_.binds (ps := ["_law_cask_here", "_law_many"]) (fun _ _ _ _ _ _ us hl => match us, hl with | [_, _], _ => rfl), ?_⟩
  refine F_.ok sc_l_tap (fun vs H Q E h => ?_) (fun cdv A outer s H vs Q E hr h => ?_)
  · first | (obtain ⟨rfl, _⟩ := h; rfl) | (obtain ⟨_, rfl, _⟩ := h; rfl) | (obtain ⟨_, _, rfl, _⟩ := h; rfl) | (obtain ⟨_, _, _, rfl, _⟩ := h; rfl) | (obtain ⟨_, _, _, _, rfl, _⟩ := h; rfl) | (obtain ⟨_, _, _, _, _, rfl, _⟩ := h; rfl) | (obtain ⟨_, _, _, _, _, _, rfl, _⟩ := h; rfl) | (obtain ⟨_, _, _, _, _, _, _, rfl, _⟩ := h; rfl) | (obtain ⟨_, _, _, _, _, _, _, _, rfl, _⟩ := h; rfl) | (obtain ⟨_, _, _, _, _, _, _, _, _, rfl, _⟩ := h; rfl) | (obtain ⟨_, _, _, _, _, _, _, _, _, _, rfl, _⟩ := h; rfl) | (obtain ⟨_, _, _, _, _, _, _, _, _, _, _, rfl, _⟩ := h; rfl) | (obtain ⟨_, _, _, _, _, _, _, _, _, _, _, _, rfl, _⟩ := h; rfl) | (obtain ⟨_, _, _, _, _, _, _, _, _, _, _, _, _, rfl, _⟩ := h; rfl) | (obtain ⟨_, _, _, _, _, _, _, _, _, _, _, _, _, _, rfl, _⟩ := h; rfl) | (obtain ⟨_, _, _, _, _, _, _, _, _, _, _, _, _, _, _, rfl, _⟩ := h; rfl) | (obtain ⟨_, _, _, _, _, _, _, _, _, _, _, _, _, _, _, _, rfl, _⟩ := h; rfl) | (obtain ⟨_, _, _, _, _, _, _, _, _, _, _, _, _, _, _, _, _, rfl, _⟩ := h; rfl) | (obtain ⟨_, _, _, _, _, _, _, _, _, _, _, _, _, _, _, _, _, _, rfl, _⟩ := h; rfl) | (obtain ⟨_, _, _, _, _, _, _, _, _, _, _, _, _, _, _, _, _, _, _, rfl, _⟩ := h; rfl) | (obtain ⟨_, _, _, _, _, _, _, _, _, _, _, _, _, _, _, _, _, _, _, _, rfl, _⟩ := h; rfl) | (obtain ⟨_, _, _, _, _, _, _, _, _, _, _, _, _, _, _, _, _, _, _, _, _, rfl, _⟩ := h; rfl) | (obtain ⟨_, _, _, _, _, _, _, _, _, _, _, _, _, _, _, _, _, _, _, _, _, _, rfl, _⟩ := h; rfl) | (obtain ⟨_, _, _, _, _, _, _, _, _, _, _, _, _, _, _, _, _, _, _, _, _, _, _, rfl, _⟩ := h; rfl)
  · obtain ⟨c, t, rfl, ⟨x, y, z, hv⟩, h0, h1, q⟩ := h
    refine ⟨_, (pss_cons (ps_if (pt_cmpR op_gt (pe_ix ix_list (pv 0) pe_int (fun _ _ => rfl)) pe_int (nomark _))
      (pss_cons (ps_set (i := 2) sc_l_tap.nd rfl (.inl rfl) (pe_op op_mod (pe_callTy call_int1 (by rfl) T.b_int (by decide +kernel) (pa_cons (pe_ix ix_list (pv 0) pe_int (fun _ _ => rfl)) pa_nil)) (pv 1)))
    (pss_cons (ps_asg (pe_op op_fdivW (pe_ix ix_list (pv 0) pe_int (fun _ _ => rfl)) (pv 1)) (pg_sub (pv 0) pe_int set_list))
    (pss_one (ps_ret (pv 2)))))
      pss_nil)
    (pss_cons (ps_asg (pe_op op_add (pe_ix ix_list (pv 0) pe_int (fun _ _ => rfl)) pe_int) (pg_sub (pv 0) pe_int set_list))
    (pss_cons (ps_set (i := 3) sc_l_tap.nd rfl (.inl rfl) (pe_op op_mod (pe_callTy call_int1 (by rfl) T.b_int (by decide +kernel) (pa_cons (pe_op op_add (pe_ix ix_list (pv 0) pe_int (fun _ _ => rfl)) (pe_op op_mul pe_int (pe_ix ix_list (pv 0) pe_int (fun _ _ => rfl)))) pa_nil)) pe_int))
    (pss_cons (ps_set (i := 4) sc_l_tap.nd rfl (.inl rfl) (pe_op op_add (pe_op op_add (pe_op op_mul (pe_op op_mod (pe_callTy call_int1 (by rfl) T.b_int (by decide +kernel) (pa_cons (pe_op op_mul (pv 3) (pv 3)) pa_nil)) pe_int) pe_int) (pv 3)) (pe_op op_mul pe_int (pe_ix ix_list (pv 0) pe_int (fun _ _ => rfl)))))
    (pss_one (ps_ret (pe_op op_mod (pe_callTy call_int1 (by rfl) T.b_int (by decide +kernel) (pa_cons (pe_op op_fdivW (pv 4) pe_int) pa_nil)) (pv 1)))))))), ?_⟩
    have fv : ∀ (H' : Hp) (x' y' z' : Int), (∀ b o, b ≠ c → H b = some o → H' b = some o) → H' c = some (.lst [.int x', .int y', .int z']) → Fv c H H' := fun H' x' y' z' a b => ⟨⟨x', y', z', b⟩, a⟩
    refine ⟨_, rfl, c, _, 0, .int x, rfl, rfl, SqL.of hv, rfl, x, 0, rfl, rfl, _, rfl, iteD (fun g => ?_) (fun g => ?_)⟩
    · refine ⟨_, rfl, c, _, 0, .int x, rfl, rfl, SqL.of hv, rfl, .inl ⟨x, rfl, _, rfl, x, t, rfl, rfl, h0, ?_⟩⟩
      refine ⟨_, rfl, c, _, 0, .int x, rfl, rfl, SqL.of hv, rfl, _, rfl, x, t, rfl, rfl, dw h0 h1, ?_⟩
      refine ⟨_, rfl, c, _, 0, 0, rfl, rfl, hv, rfl, ?_⟩
      refine ⟨_, rfl, ?_⟩
      exact q _ _ (Int.emod_nonneg _ (by omega)) (Int.emod_lt_of_pos _ h0) (fv _ _ _ _ (fun b o n e => by rw [upd_ne n]; exact e) upd_same)
    · refine ⟨_, rfl, c, _, 2, .int z, rfl, rfl, SqL.of hv, rfl, _, 1, rfl, rfl, ?_⟩
      refine ⟨_, rfl, c, _, 2, 2, rfl, rfl, hv, rfl, ?_⟩
      have hv2 : upd H c (.lst [.int x, .int y, .int (z + 1)]) c = some (.lst [.int x, .int y, .int (z + 1)]) := upd_same
      refine ⟨_, rfl, c, _, 1, .int y, rfl, rfl, SqL.of hv2, rfl, _, rfl, c, _, 2, .int (z + 1), rfl, rfl, SqL.of hv2, rfl, _, _, rfl, rfl, .inl ⟨by decide, by decide⟩, _, _, rfl, rfl, .inl ⟨_, rfl, ?_⟩⟩
      refine ⟨_, _, rfl, rfl, (show (0 : Int) < 2305843009213693921 by decide), ?_⟩
      refine ⟨_, rfl, _, rfl, _, _, rfl, rfl, .inl ⟨by omega, by omega⟩, .inl ⟨_, rfl, ?_⟩⟩
      refine ⟨_, _, rfl, rfl, (show (0 : Int) < 2305843009213693951 by decide), _, _, rfl, rfl, .inr ⟨by decide, by decide⟩, ?_⟩
      refine ⟨_, rfl, _, _, rfl, rfl, _, rfl, c, _, 2, .int (z + 1), rfl, rfl, SqL.of hv2, rfl, _, _, rfl, rfl, .inl ⟨by decide, by decide⟩, _, _, rfl, rfl, ?_⟩
      refine ⟨_, rfl, _, _, rfl, rfl, dw (by decide) (by decide), .inl ⟨_, rfl, _, rfl, _, _, rfl, rfl, h0, ?_⟩⟩
      exact q _ _ (Int.emod_nonneg _ (by omega)) (Int.emod_lt_of_pos _ h0) (fv _ _ _ _ (fun b o n e => by rw [upd_ne n]; exact e) hv2)
theorem ok_l_one (T : Txt K mg C_Form C_Double) : Def P w K mg base 2 "_law_one" ["_law_cask_here", "_law_items"] (sp_l_one K C_Form C_Double) := by
  obtain ⟨f_, fd_, g_, F_⟩ := T.d_l_one
  obtain ⟨f_l_tap, fd_l_tap, g_l_tap, k_l_tap, b_l_tap, G_l_tap⟩ := (ok_l_tap (P := P) (w := w) (base := base) T)
  refine ⟨f_, fd_, g_, F_.kp, F_.binds (ps := ["_law_cask_here", "_law_items"]) (fun _ _ _ _ _ _ us hl => match us, hl with | [_, _], _ => rfl), ?_⟩
  refine F_.ok sc_l_one (fun vs H Q E h => ?_) (fun cdv A outer s H vs Q E hr h => ?_)
  · first | (obtain ⟨rfl, _⟩ := h; rfl) | (obtain ⟨_, rfl, _⟩ := h; rfl) | (obtain ⟨_, _, rfl, _⟩ := h; rfl) | (obtain ⟨_, _, _, rfl, _⟩ := h; rfl) | (obtain ⟨_, _, _, _, rfl, _⟩ := h; rfl) | (obtain ⟨_, _, _, _, _, rfl, _⟩ := h; rfl) | (obtain ⟨_, _, _, _, _, _, rfl, _⟩ := h; rfl) | (obtain ⟨_, _, _, _, _, _, _, rfl, _⟩ := h; rfl) | (obtain ⟨_, _, _, _, _, _, _, _, rfl, _⟩ := h; rfl) | (obtain ⟨_, _, _, _, _, _, _, _, _, rfl, _⟩ := h; rfl) | (obtain ⟨_, _, _, _, _, _, _, _, _, _, rfl, _⟩ := h; rfl) | (obtain ⟨_, _, _, _, _, _, _, _, _, _, _, rfl, _⟩ := h; rfl) | (obtain ⟨_, _, _, _, _, _, _, _, _, _, _, _, rfl, _⟩ := h; rfl) | (obtain ⟨_, _, _, _, _, _, _, _, _, _, _, _, _, rfl, _⟩ := h; rfl) | (obtain ⟨_, _, _, _, _, _, _, _, _, _, _, _, _, _, rfl, _⟩ := h; rfl) | (obtain ⟨_, _, _, _, _, _, _, _, _, _, _, _, _, _, _, rfl, _⟩ := h; rfl) | (obtain ⟨_, _, _, _, _, _, _, _, _, _, _, _, _, _, _, _, rfl, _⟩ := h; rfl) | (obtain ⟨_, _, _, _, _, _, _, _, _, _, _, _, _, _, _, _, _, rfl, _⟩ := h; rfl) | (obtain ⟨_, _, _, _, _, _, _, _, _, _, _, _, _, _, _, _, _, _, rfl, _⟩ := h; rfl) | (obtain ⟨_, _, _, _, _, _, _, _, _, _, _, _, _, _, _, _, _, _, _, rfl, _⟩ := h; rfl) | (obtain ⟨_, _, _, _, _, _, _, _, _, _, _, _, _, _, _, _, _, _, _, _, rfl, _⟩ := h; rfl) | (obtain ⟨_, _, _, _, _, _, _, _, _, _, _, _, _, _, _, _, _, _, _, _, _, rfl, _⟩ := h; rfl) | (obtain ⟨_, _, _, _, _, _, _, _, _, _, _, _, _, _, _, _, _, _, _, _, _, _, rfl, _⟩ := h; rfl) | (obtain ⟨_, _, _, _, _, _, _, _, _, _, _, _, _, _, _, _, _, _, _, _, _, _, _, rfl, _⟩ := h; rfl)
  · obtain ⟨c, l, xs, rfl, hc, hl, ne, hx, hz, q⟩ := h
    refine ⟨_, (pss_one (ps_ret (pe_ix ix_list (pv 1) (pe_call G_l_tap (hr.mono (by decide)) (by rfl) g_l_tap k_l_tap b_l_tap .nil pass0 (pa_cons (pv 0) (pa_cons (pe_callB call_len_seq (by rfl) T.b_len PySem.boot_len (pa_cons (pv 1) pa_nil)) pa_nil))) (fun _ _ => rfl)))), ?_⟩
    have h0 : 0 < xs.length := List.length_pos_iff.mpr hx
    refine ⟨_, rfl, _, rfl, _, rfl, l, xs, rfl, .inl (SqL.of hl), c, _, rfl, hc, by omega, by omega, fun r H' r0 r1 e => ?_⟩
    obtain ⟨j, rfl⟩ : ∃ j : Nat, r = (j : Int) := ⟨r.toNat, by omega⟩
    have hj : j < xs.length := by omega
    exact ⟨l, xs, _, xs[j], rfl, rfl, SqL.of (e.2 _ _ ne hl), atI_nat (List.getElem?_eq_getElem hj), q _ _ (List.getElem_mem hj) e⟩
theorem ok_l_then (T : Txt K mg C_Form C_Double) : Def P w K mg base 1 "_law_then" ["_law_first", "_law_second"] (sp_l_then K C_Form C_Double) := by
  obtain ⟨f_, fd_, g_, F_⟩ := T.d_l_then
  refine ⟨f_, fd_, g_, F_.kp, F_.binds (ps := ["_law_first", "_law_second"]) (fun _ _ _ _ _ _ us hl => match us, hl with | [_, _], _ => rfl), ?_⟩
  refine F_.ok sc_l_then (fun vs H Q E h => ?_) (fun cdv A outer s H vs Q E hr h => ?_)
  · first | (obtain ⟨rfl, _⟩ := h; rfl) | (obtain ⟨_, rfl, _⟩ := h; rfl) | (obtain ⟨_, _, rfl, _⟩ := h; rfl) | (obtain ⟨_, _, _, rfl, _⟩ := h; rfl) | (obtain ⟨_, _, _, _, rfl, _⟩ := h; rfl) | (obtain ⟨_, _, _, _, _, rfl, _⟩ := h; rfl) | (obtain ⟨_, _, _, _, _, _, rfl, _⟩ := h; rfl) | (obtain ⟨_, _, _, _, _, _, _, rfl, _⟩ := h; rfl) | (obtain ⟨_, _, _, _, _, _, _, _, rfl, _⟩ := h; rfl) | (obtain ⟨_, _, _, _, _, _, _, _, _, rfl, _⟩ := h; rfl) | (obtain ⟨_, _, _, _, _, _, _, _, _, _, rfl, _⟩ := h; rfl) | (obtain ⟨_, _, _, _, _, _, _, _, _, _, _, rfl, _⟩ := h; rfl) | (obtain ⟨_, _, _, _, _, _, _, _, _, _, _, _, rfl, _⟩ := h; rfl) | (obtain ⟨_, _, _, _, _, _, _, _, _, _, _, _, _, rfl, _⟩ := h; rfl) | (obtain ⟨_, _, _, _, _, _, _, _, _, _, _, _, _, _, rfl, _⟩ := h; rfl) | (obtain ⟨_, _, _, _, _, _, _, _, _, _, _, _, _, _, _, rfl, _⟩ := h; rfl) | (obtain ⟨_, _, _, _, _, _, _, _, _, _, _, _, _, _, _, _, rfl, _⟩ := h; rfl) | (obtain ⟨_, _, _, _, _, _, _, _, _, _, _, _, _, _, _, _, _, rfl, _⟩ := h; rfl) | (obtain ⟨_, _, _, _, _, _, _, _, _, _, _, _, _, _, _, _, _, _, rfl, _⟩ := h; rfl) | (obtain ⟨_, _, _, _, _, _, _, _, _, _, _, _, _, _, _, _, _, _, _, rfl, _⟩ := h; rfl) | (obtain ⟨_, _, _, _, _, _, _, _, _, _, _, _, _, _, _, _, _, _, _, _, rfl, _⟩ := h; rfl) | (obtain ⟨_, _, _, _, _, _, _, _, _, _, _, _, _, _, _, _, _, _, _, _, _, rfl, _⟩ := h; rfl) | (obtain ⟨_, _, _, _, _, _, _, _, _, _, _, _, _, _, _, _, _, _, _, _, _, _, rfl, _⟩ := h; rfl) | (obtain ⟨_, _, _, _, _, _, _, _, _, _, _, _, _, _, _, _, _, _, _, _, _, _, _, rfl, _⟩ := h; rfl)
  · obtain ⟨a, b, p, q', r, s', i, j, k, m, rfl, h4, h4', bp, bq, br, bs, bi, bj, bk, bm, q⟩ := h
    refine ⟨_, (pss_cons (ps_asg (pv 0) (pg_tup (by rfl) (pgs_cons (pg_tup (by rfl) (pgs_cons (pg_name (i := 2) sc_l_then.nd rfl (.inl rfl)) (pgs_cons (pg_name (i := 3) sc_l_then.nd rfl (.inl rfl)) pgs_nil))) (pgs_cons (pg_tup (by rfl) (pgs_cons (pg_name (i := 4) sc_l_then.nd rfl (.inl rfl)) (pgs_cons (pg_name (i := 5) sc_l_then.nd rfl (.inl rfl)) pgs_nil))) pgs_nil))))
    (pss_cons (ps_asg (pv 1) (pg_tup (by rfl) (pgs_cons (pg_tup (by rfl) (pgs_cons (pg_name (i := 6) sc_l_then.nd rfl (.inl rfl)) (pgs_cons (pg_name (i := 7) sc_l_then.nd rfl (.inl rfl)) pgs_nil))) (pgs_cons (pg_tup (by rfl) (pgs_cons (pg_name (i := 8) sc_l_then.nd rfl (.inl rfl)) (pgs_cons (pg_name (i := 9) sc_l_then.nd rfl (.inl rfl)) pgs_nil))) pgs_nil))))
    (pss_one (ps_ret (pe_tup (pa_cons (pe_tup (pa_cons (pe_op op_add (pe_op op_mulW (pv 6) (pv 2)) (pe_op op_mulW (pv 7) (pv 4))) (pa_cons (pe_op op_add (pe_op op_mulW (pv 6) (pv 3)) (pe_op op_mulW (pv 7) (pv 5))) pa_nil))) (pa_cons (pe_tup (pa_cons (pe_op op_add (pe_op op_mulW (pv 8) (pv 2)) (pe_op op_mulW (pv 9) (pv 4))) (pa_cons (pe_op op_add (pe_op op_mulW (pv 8) (pv 3)) (pe_op op_mulW (pv 9) (pv 5))) pa_nil))) pa_nil))))))), ?_⟩
    refine ⟨_, rfl, un4 h4 ?_⟩
    refine ⟨_, rfl, un4 h4' ?_⟩
    refine ⟨_, rfl, _, rfl, _, _, rfl, rfl, mulB (by with_reducible assumption) (by with_reducible assumption) (by decide), _, rfl, _, rfl, _, _, rfl, rfl, mulB (by with_reducible assumption) (by with_reducible assumption) (by decide), _, _, rfl, rfl, _, rfl, _, rfl, _, _, rfl, rfl, mulB (by with_reducible assumption) (by with_reducible assumption) (by decide), _, rfl, _, rfl, _, _, rfl, rfl, mulB (by with_reducible assumption) (by with_reducible assumption) (by decide), _, _, rfl, rfl, sl2, fun t1 n1 => ⟨_, rfl, _, rfl, _, _, rfl, rfl, mulB (by with_reducible assumption) (by with_reducible assumption) (by decide), _, rfl, _, rfl, _, _, rfl, rfl, mulB (by with_reducible assumption) (by with_reducible assumption) (by decide), _, _, rfl, rfl, _, rfl, _, rfl, _, _, rfl, rfl, mulB (by with_reducible assumption) (by with_reducible assumption) (by decide), _, rfl, _, rfl, _, _, rfl, rfl, mulB (by with_reducible assumption) (by with_reducible assumption) (by decide), _, _, rfl, rfl, sl2, fun t2 n2 => ⟨sl2, fun x nx => ?_⟩⟩⟩
    have z := t4_new n1 n2 nx
    exact q x _ z.1 z.2
theorem ok_l_common (T : Txt K mg C_Form C_Double) : Def P w K mg base 1 "_law_common" ["_law_numbers"] (sp_l_common K C_Form C_Double) := by
  obtain ⟨f_, fd_, g_, F_⟩ := T.d_l_common
  refine ⟨f_, fd_, g_, F_.kp, F_.binds (ps := ["_law_numbers"]) (fun _ _ _ _ _ _ us hl => match us, hl with | [_], _ => rfl), ?_⟩
  refine F_.ok sc_l_common (fun vs H Q E h => ?_) (fun cdv A outer s H vs Q E hr h => ?_)
  · first | (obtain ⟨rfl, _⟩ := h; rfl) | (obtain ⟨_, rfl, _⟩ := h; rfl) | (obtain ⟨_, _, rfl, _⟩ := h; rfl) | (obtain ⟨_, _, _, rfl, _⟩ := h; rfl) | (obtain ⟨_, _, _, _, rfl, _⟩ := h; rfl) | (obtain ⟨_, _, _, _, _, rfl, _⟩ := h; rfl) | (obtain ⟨_, _, _, _, _, _, rfl, _⟩ := h; rfl) | (obtain ⟨_, _, _, _, _, _, _, rfl, _⟩ := h; rfl) | (obtain ⟨_, _, _, _, _, _, _, _, rfl, _⟩ := h; rfl) | (obtain ⟨_, _, _, _, _, _, _, _, _, rfl, _⟩ := h; rfl) | (obtain ⟨_, _, _, _, _, _, _, _, _, _, rfl, _⟩ := h; rfl) | (obtain ⟨_, _, _, _, _, _, _, _, _, _, _, rfl, _⟩ := h; rfl) | (obtain ⟨_, _, _, _, _, _, _, _, _, _, _, _, rfl, _⟩ := h; rfl) | (obtain ⟨_, _, _, _, _, _, _, _, _, _, _, _, _, rfl, _⟩ := h; rfl) | (obtain ⟨_, _, _, _, _, _, _, _, _, _, _, _, _, _, rfl, _⟩ := h; rfl) | (obtain ⟨_, _, _, _, _, _, _, _, _, _, _, _, _, _, _, rfl, _⟩ := h; rfl) | (obtain ⟨_, _, _, _, _, _, _, _, _, _, _, _, _, _, _, _, rfl, _⟩ := h; rfl) | (obtain ⟨_, _, _, _, _, _, _, _, _, _, _, _, _, _, _, _, _, rfl, _⟩ := h; rfl) | (obtain ⟨_, _, _, _, _, _, _, _, _, _, _, _, _, _, _, _, _, _, rfl, _⟩ := h; rfl) | (obtain ⟨_, _, _, _, _, _, _, _, _, _, _, _, _, _, _, _, _, _, _, rfl, _⟩ := h; rfl) | (obtain ⟨_, _, _, _, _, _, _, _, _, _, _, _, _, _, _, _, _, _, _, _, rfl, _⟩ := h; rfl) | (obtain ⟨_, _, _, _, _, _, _, _, _, _, _, _, _, _, _, _, _, _, _, _, _, rfl, _⟩ := h; rfl) | (obtain ⟨_, _, _, _, _, _, _, _, _, _, _, _, _, _, _, _, _, _, _, _, _, _, rfl, _⟩ := h; rfl) | (obtain ⟨_, _, _, _, _, _, _, _, _, _, _, _, _, _, _, _, _, _, _, _, _, _, _, rfl, _⟩ := h; rfl)
  · obtain ⟨a, ns, rfl, ha, q⟩ := h
    refine ⟨_, (pss_cons (ps_set (i := 1) sc_l_common.nd rfl (.inl rfl) pe_int)
    (pss_cons (ps_for PassesOwn.never rfl (pi_tup (pv 0)) (pg_name (i := 2) sc_l_common.nd rfl (.inl rfl))
      (pss_cons (ps_par (i := 3) (j := 4) (by rfl) sc_l_common.nd rfl rfl (by decide) rfl rfl (pa_cons (pe_callB call_abs (by rfl) T.b_abs (by decide +kernel) (pa_cons (pv 2) pa_nil)) (pa_cons (pv 1) pa_nil)) (by rfl))
    (pss_cons (ps_while PassesOwn.never (pt_cmpR op_ne (pv 4) pe_int (nomark _))
      (pss_one (ps_par (i := 3) (j := 4) (by rfl) sc_l_common.nd rfl rfl (by decide) rfl rfl (pa_cons (pv 4) (pa_cons (pe_op op_mod (pe_callTy call_int1 (by rfl) T.b_int (by decide +kernel) (pa_cons (pv 3) pa_nil)) (pv 4)) pa_nil)) (by rfl))))
    (pss_one (ps_set (i := 1) sc_l_common.nd rfl (.inl rfl) (pv 3))))))
    (pss_one (ps_ret (pv 1))))), ?_⟩
    have ab : ∀ z : Int, (if z < 0 then -z else z) = (z.natAbs : Int) := fun z => by
      by_cases h : z < 0
      · rw [if_pos h]; omega
      · rw [if_neg h]; omega
    refine ⟨_, rfl, a, rfl, ⟨_, SqT.of ha⟩, for_tup (xs := ns.map V.int) (fun i σ H' => ∃ y2 y3 y4, σ = [some (.ref a), some (.int (gcdL (ns.take i) : Nat)), y2, y3, y4] ∧ H = H') ⟨none, none, none, rfl, rfl⟩ (fun i σ H' _ ⟨_, _, _, _, e⟩ => e ▸ SqT.of ha) ?_ ?_⟩
    · rintro i x σ H' hx ⟨y2, y3, y4, rfl, rfl⟩
      obtain ⟨n, hn, rfl⟩ := get_int hx
      refine ⟨_, rfl, n, rfl, _, rfl, _, _, rfl, ?_⟩
      rw [ab]
      refine ⟨fun m σ H' => ∃ x y : Nat, σ = [some (.ref a), some (.int (gcdL (ns.take i) : Nat)), some (.int n), some (.int (x : Int)), some (.int (y : Int))] ∧ H' = H ∧ Nat.gcd x y = gcdL (ns.take (i + 1)) ∧ m = y, ⟨_, _, _, rfl, rfl, by rw [gcdL_take hn, Nat.gcd_comm], rfl⟩, ?_⟩
      rintro m σ H' ⟨x, y, rfl, rfl, hg, rfl⟩
      refine ⟨_, rfl, rfl, _, rfl, iteEn (fun g => ?_) (fun g => ?_)⟩
      · have g0 : 0 < m := by omega
        refine ⟨fun σ' H'' => ∃ x' y' : Nat, σ' = [some (.ref a), some (.int (gcdL (ns.take i) : Nat)), some (.int n), some (.int (x' : Int)), some (.int (y' : Int))] ∧ H'' = H' ∧ Nat.gcd x' y' = gcdL (ns.take (i + 1)) ∧ y' < m, fun σ' H'' ⟨x', y', e1, e2, e3, e4⟩ => ⟨y', e4, x', y', e1, e2, e3, rfl⟩, ?_⟩
        refine ⟨_, rfl, _, rfl, .inl ⟨_, rfl, _, rfl, (x : Int), (m : Int), rfl, rfl, by omega, _, _, rfl, ?_⟩⟩
        refine ⟨m, x % m, rfl, rfl, ?_, Nat.mod_lt _ g0⟩
        rw [← hg, Nat.gcd_comm x m, Nat.gcd_rec m x, Nat.gcd_comm]
      · have : m = 0 := by omega
        subst this
        refine ⟨_, rfl, ?_⟩
        refine ⟨some (.int n), some (.int (x : Int)), some (.int ((0 : Nat) : Int)), ?_, rfl⟩
        rw [← hg, Nat.gcd_zero_right]
        rfl
    · rintro σ H' ⟨y2, y3, y4, rfl, rfl⟩
      refine ⟨_, rfl, ?_⟩
      rw [List.length_map, List.take_length]
      exact q
theorem ok_l_change (T : Txt K mg C_Form C_Double) : Def P w K mg base 3 "_law_change" ["_law_cask_here", "_law_turns_here"] (sp_l_change K C_Form C_Double) := by
  obtain ⟨f_, fd_, g_, F_⟩ := T.d_l_change
  obtain ⟨f_l_one, fd_l_one, g_l_one, k_l_one, b_l_one, G_l_one⟩ := (ok_l_one (P := P) (w := w) (base := base) T)
  obtain ⟨f_l_tap, fd_l_tap, g_l_tap, k_l_tap, b_l_tap, G_l_tap⟩ := (ok_l_tap (P := P) (w := w) (base := base) T)
  obtain ⟨f_l_then, fd_l_then, g_l_then, k_l_then, b_l_then, G_l_then⟩ := (ok_l_then (P := P) (w := w) (base := base) T)
  refine ⟨f_, fd_, g_, F_.kp, F_.binds (ps := ["_law_cask_here", "_law_turns_here"]) (fun _ _ _ _ _ _ us hl => match us, hl with | [_, _], _ => rfl), ?_⟩
  refine F_.ok sc_l_change (fun vs H Q E h => ?_) (fun cdv A outer s H vs Q E hr h => ?_)
  · first | (obtain ⟨rfl, _⟩ := h; rfl) | (obtain ⟨_, rfl, _⟩ := h; rfl) | (obtain ⟨_, _, rfl, _⟩ := h; rfl) | (obtain ⟨_, _, _, rfl, _⟩ := h; rfl) | (obtain ⟨_, _, _, _, rfl, _⟩ := h; rfl) | (obtain ⟨_, _, _, _, _, rfl, _⟩ := h; rfl) | (obtain ⟨_, _, _, _, _, _, rfl, _⟩ := h; rfl) | (obtain ⟨_, _, _, _, _, _, _, rfl, _⟩ := h; rfl) | (obtain ⟨_, _, _, _, _, _, _, _, rfl, _⟩ := h; rfl) | (obtain ⟨_, _, _, _, _, _, _, _, _, rfl, _⟩ := h; rfl) | (obtain ⟨_, _, _, _, _, _, _, _, _, _, rfl, _⟩ := h; rfl) | (obtain ⟨_, _, _, _, _, _, _, _, _, _, _, rfl, _⟩ := h; rfl) | (obtain ⟨_, _, _, _, _, _, _, _, _, _, _, _, rfl, _⟩ := h; rfl) | (obtain ⟨_, _, _, _, _, _, _, _, _, _, _, _, _, rfl, _⟩ := h; rfl) | (obtain ⟨_, _, _, _, _, _, _, _, _, _, _, _, _, _, rfl, _⟩ := h; rfl) | (obtain ⟨_, _, _, _, _, _, _, _, _, _, _, _, _, _, _, rfl, _⟩ := h; rfl) | (obtain ⟨_, _, _, _, _, _, _, _, _, _, _, _, _, _, _, _, rfl, _⟩ := h; rfl) | (obtain ⟨_, _, _, _, _, _, _, _, _, _, _, _, _, _, _, _, _, rfl, _⟩ := h; rfl) | (obtain ⟨_, _, _, _, _, _, _, _, _, _, _, _, _, _, _, _, _, _, rfl, _⟩ := h; rfl) | (obtain ⟨_, _, _, _, _, _, _, _, _, _, _, _, _, _, _, _, _, _, _, rfl, _⟩ := h; rfl) | (obtain ⟨_, _, _, _, _, _, _, _, _, _, _, _, _, _, _, _, _, _, _, _, rfl, _⟩ := h; rfl) | (obtain ⟨_, _, _, _, _, _, _, _, _, _, _, _, _, _, _, _, _, _, _, _, _, rfl, _⟩ := h; rfl) | (obtain ⟨_, _, _, _, _, _, _, _, _, _, _, _, _, _, _, _, _, _, _, _, _, _, rfl, _⟩ := h; rfl) | (obtain ⟨_, _, _, _, _, _, _, _, _, _, _, _, _, _, _, _, _, _, _, _, _, _, _, rfl, _⟩ := h; rfl)
  · obtain ⟨c, t, rfl, hc, ht, q⟩ := h
    refine ⟨_, (pss_cons (ps_set (i := 2) sc_l_change.nd rfl (.inl rfl) (pe_tup (pa_cons (pe_tup (pa_cons pe_int (pa_cons pe_int pa_nil))) (pa_cons (pe_tup (pa_cons pe_int (pa_cons pe_int pa_nil))) pa_nil))))
    (pss_cons (ps_for PassesOwn.never rfl (pi_range1 (by rfl) T.b_range (pa_cons (pe_call G_l_tap (hr.mono (by decide)) (by rfl) g_l_tap k_l_tap b_l_tap .nil pass0 (pa_cons (pv 0) (pa_cons (pe_op op_add (pv 1) pe_int) pa_nil))) pa_nil)) (pg_name (i := 3) sc_l_change.nd rfl (.inl rfl))
      (pss_cons (ps_set (i := 4) sc_l_change.nd rfl (.inl rfl) (pe_call G_l_one (hr.mono (by decide)) (by rfl) g_l_one k_l_one b_l_one .nil pass0 (pa_cons (pv 0) (pa_cons (pe_lst (pa_cons pe_int (pa_cons (pe_un un_neg pe_int) (pa_cons pe_int (pa_cons (pe_un un_neg pe_int) (pa_cons pe_int (pa_cons (pe_op op_add (pe_op op_pow pe_int pe_int) (pe_call G_l_tap (hr.mono (by decide)) (by rfl) g_l_tap k_l_tap b_l_tap .nil pass0 (pa_cons (pv 0) (pa_cons pe_int pa_nil)))) pa_nil))))))) pa_nil))))
    (pss_cons (ps_set (i := 5) sc_l_change.nd rfl (.inl rfl) (pe_call G_l_one (hr.mono (by decide)) (by rfl) g_l_one k_l_one b_l_one .nil pass0 (pa_cons (pv 0) (pa_cons (pe_lst (pa_cons (pe_tup (pa_cons (pe_tup (pa_cons pe_int (pa_cons (pv 4) pa_nil))) (pa_cons (pe_tup (pa_cons pe_int (pa_cons pe_int pa_nil))) pa_nil))) (pa_cons (pe_tup (pa_cons (pe_tup (pa_cons pe_int (pa_cons pe_int pa_nil))) (pa_cons (pe_tup (pa_cons (pv 4) (pa_cons pe_int pa_nil))) pa_nil))) (pa_cons (pe_tup (pa_cons (pe_tup (pa_cons pe_int (pa_cons pe_int pa_nil))) (pa_cons (pe_tup (pa_cons pe_int (pa_cons pe_int pa_nil))) pa_nil))) (pa_cons (pe_tup (pa_cons (pe_tup (pa_cons (pe_un un_neg pe_int) (pa_cons pe_int pa_nil))) (pa_cons (pe_tup (pa_cons pe_int (pa_cons pe_int pa_nil))) pa_nil))) (pa_cons (pe_tup (pa_cons (pe_tup (pa_cons pe_int (pa_cons pe_int pa_nil))) (pa_cons (pe_tup (pa_cons (pe_un un_neg pe_int) (pa_cons pe_int pa_nil))) pa_nil))) pa_nil)))))) pa_nil))))
    (pss_one (ps_set (i := 2) sc_l_change.nd rfl (.inl rfl) (pe_call G_l_then (hr.mono (by decide)) (by rfl) g_l_then k_l_then b_l_then .nil pass0 (pa_cons (pv 2) (pa_cons (pv 5) pa_nil))))))))
    (pss_one (ps_ret (pv 2))))), ?_⟩
    refine ⟨sl2, fun t1 n1 => ⟨sl2, fun t2 n2 => ⟨sl2, fun x0 n0 => ?_⟩⟩⟩
    have z0 := t4_new n1 n2 n0
    have f0 : Fv c H _ := fv_ex hc z0.1
    refine ⟨_, rfl, _, rfl, _, _, rfl, rfl, c, (t : Int) + 1, rfl, f0.1, by omega, by omega, fun u H1 u0 u1 e1 => ⟨_, rfl, by omega, by omega, ?_⟩⟩
    have i0 : T4 H1 x0 1 0 0 1 := z0.2.ex fun b xs z => fv_tup f0.1 e1 z
    refine for_range (lo := 0) (n := u.toNat) (fun i σ H' => ∃ x p q r s y3 y4 y5, σ = [some (.ref c), some (.int (t : Int)), some (.ref x), y3, y4, y5] ∧ Fv c H H' ∧ T4 H' x p q r s ∧ Gd i p q r s) ⟨x0, 1, 0, 0, 1, none, none, none, rfl, f0.trans e1, i0, (show Gd 0 1 0 0 1 from ⟨by decide, by decide, by decide, by decide, .inl (by decide)⟩)⟩ ?_ ?_
    · rintro i σ H' hi ⟨x, p, q', r, s', y3, y4, y5, rfl, e2, h4, hg⟩
      have hi4 : i < 4 := by omega
      refine ⟨_, rfl, _, rfl, _, rfl, _, _, rfl, rfl, ⟨by decide, by decide, by decide⟩, _, rfl, c, 99, rfl, e2.1, by decide, by decide, fun v H3 v0 v1 e3 => ⟨_, _, rfl, rfl, sl6, fun l nl => ?_⟩⟩
      have f3 : Fv c H' H3 := e3
      refine ⟨c, l, [.int 1, .int (-1), .int 2, .int (-3), .int 5, .int (1000000 + v)], rfl, vat_new f3.1 nl, upd_same, fv_ne f3.1 nl, by simp, by show 6 ≤ 1000; decide, fun y H4 hy e4 => ?_⟩
      obtain ⟨z, rfl, hz⟩ : ∃ z : Int, y = .int z ∧ z.natAbs ≤ 1000098 := by
        simp only [List.mem_cons, List.mem_nil_iff, or_false] at hy
        rcases hy with rfl | rfl | rfl | rfl | rfl | rfl
        · exact ⟨_, rfl, by decide⟩
        · exact ⟨_, rfl, by decide⟩
        · exact ⟨_, rfl, by decide⟩
        · exact ⟨_, rfl, by decide⟩
        · exact ⟨_, rfl, by decide⟩
        · exact ⟨_, rfl, by omega⟩
      have f4 : Fv c H' H4 := (f3.trans (fv_new f3.1 nl)).trans e4
      refine ⟨_, rfl, _, rfl, sl2, fun a1 m1 => ⟨sl2, fun a2 m2 => ⟨sl2, fun a3 m3 => ?_⟩⟩⟩
      have w1 := t4_new m1 m2 m3
      generalize upd (upd (upd H4 a1 (.tup [.int 1, .int z])) a2 (.tup [.int 0, .int 1])) a3 (.tup [.ref a1, .ref a2]) = Ha at w1 ⊢
      refine ⟨sl2, fun a1 m1 => ⟨_, rfl, sl2, fun a2 m2 => ⟨sl2, fun b3 m3 => ?_⟩⟩⟩
      have w2 := t4_new m1 m2 m3
      generalize upd (upd (upd Ha a1 (.tup [.int 1, .int 0])) a2 (.tup [.int z, .int 1])) b3 (.tup [.ref a1, .ref a2]) = Hb at w2 ⊢
      refine ⟨sl2, fun a1 m1 => ⟨sl2, fun a2 m2 => ⟨sl2, fun c3 m3 => ?_⟩⟩⟩
      have w3 := t4_new m1 m2 m3
      generalize upd (upd (upd Hb a1 (.tup [.int 0, .int 1])) a2 (.tup [.int 1, .int 0])) c3 (.tup [.ref a1, .ref a2]) = Hc at w3 ⊢
      refine ⟨_, rfl, sl2, fun a1 m1 => ⟨sl2, fun a2 m2 => ⟨sl2, fun d3 m3 => ?_⟩⟩⟩
      have w4 := t4_new m1 m2 m3
      generalize upd (upd (upd Hc a1 (.tup [.int (-1), .int 0])) a2 (.tup [.int 0, .int 1])) d3 (.tup [.ref a1, .ref a2]) = Hd at w4 ⊢
      refine ⟨sl2, fun a1 m1 => ⟨_, rfl, sl2, fun a2 m2 => ⟨sl2, fun g3 m3 => ?_⟩⟩⟩
      have w5 := t4_new m1 m2 m3
      generalize upd (upd (upd Hd a1 (.tup [.int 0, .int 1])) a2 (.tup [.int (-1), .int 0])) g3 (.tup [.ref a1, .ref a2]) = Hg at w5 ⊢
      refine ⟨sl5, fun l2 nl2 => ?_⟩
      have eg : Ex0 H4 Hg := (((w1.1.trans w2.1).trans w3.1).trans w4.1).trans w5.1
      have f5 : Fv c H' Hg := f4.trans (fv_ex f4.1 eg)
      have f6 : Fv c Hg (upd Hg l2 (.lst [.ref a3, .ref b3, .ref c3, .ref d3, .ref g3])) := fv_new f5.1 nl2
      refine ⟨c, l2, [.ref a3, .ref b3, .ref c3, .ref d3, .ref g3], rfl, f6.1, upd_same, fv_ne f5.1 nl2, by simp, by show 5 ≤ 1000; decide, fun y H6 hy e6 => ?_⟩
      have f7 : Fv c Hg H6 := f6.trans e6
      have up : ∀ {t : Addr} {i j k m : Int}, T4 Hg t i j k m → T4 H6 t i j k m := fun h => h.ex fun b xs z => fv_tup f5.1 f7 z
      obtain ⟨x2, i', j, k, m, rfl, h2, g2⟩ : ∃ x2 i' j k m, y = .ref x2 ∧ T4 H6 x2 i' j k m ∧ Pl i' j k m := by
        simp only [List.mem_cons, List.mem_nil_iff, or_false] at hy
        rcases hy with rfl | rfl | rfl | rfl | rfl
        · exact ⟨_, _, _, _, _, rfl, up (Ex0.t4 (((w2.1.trans w3.1).trans w4.1).trans w5.1) w1.2), z, hz, .inl ⟨rfl, rfl, rfl, rfl⟩⟩
        · exact ⟨_, _, _, _, _, rfl, up (Ex0.t4 ((w3.1.trans w4.1).trans w5.1) w2.2), z, hz, .inr (.inl ⟨rfl, rfl, rfl, rfl⟩)⟩
        · exact ⟨_, _, _, _, _, rfl, up (Ex0.t4 (w4.1.trans w5.1) w3.2), z, hz, .inr (.inr (.inl ⟨rfl, rfl, rfl, rfl⟩))⟩
        · exact ⟨_, _, _, _, _, rfl, up (Ex0.t4 w5.1 w4.2), z, hz, .inr (.inr (.inr (.inl ⟨rfl, rfl, rfl, rfl⟩)))⟩
        · exact ⟨_, _, _, _, _, rfl, up w5.2, z, hz, .inr (.inr (.inr (.inr ⟨rfl, rfl, rfl, rfl⟩)))⟩
      have f8 : Fv c H' H6 := f5.trans f7
      have h1 : T4 H6 x p q' r s' := h4.ex fun b xs z => fv_tup e2.1 f8 z
      have gb := hg.b (by omega)
      have pb := g2.b
      refine ⟨_, rfl, _, rfl, x, x2, p, q', r, s', i', j, k, m, rfl, h1, h2, gb.1.mono (by decide), gb.2.1.mono (by decide), gb.2.2.1.mono (by decide), gb.2.2.2.mono (by decide), pb.1, pb.2.1, pb.2.2.1, pb.2.2.2, fun x3 H7 e7 h7 => ?_⟩
      exact ⟨x3, _, _, _, _, _, _, _, rfl, (e2.trans f8).trans (fv_ex (e2.trans f8).1 e7), h7, hg.step g2⟩
    · rintro σ H' ⟨x, p, q', r, s', y3, y4, y5, rfl, e2, h4, hg⟩
      exact ⟨_, rfl, q x p q' r s' H' e2 h4 (hg.mono (by omega))⟩
end
end TF
namespace TF
open PySem PySem.Spec PyProof.Rows L2 Fr
open K05M (fv fl2 fl3 fdisc)
open K06M
def sp_l_product (_ : PySem.W.Frag) (_ _ : Addr) : Sp := fun vs H Q _ => ∃ (a b : Addr) (xs ys : List Int), vs = [.ref a, .ref b] ∧ Ti H a xs ∧ Ti H b ys ∧ (∀ x ∈ xs, B 10000 x) ∧ (∀ y ∈ ys, B 10000 y) ∧ 0 < xs.length ∧ xs.length ≤ 1000 ∧ ys.length ≤ 1000 ∧ ∀ t H', Ex0 H H' → Ti H' t (prodL xs ys) → Q (.ref t) H'
def sp_l_sum (_ : PySem.W.Frag) (_ _ : Addr) : Sp := fun vs H Q _ => ∃ (a b : Addr) (xs ys : List Int), vs = [.ref a, .ref b] ∧ Ti H a xs ∧ Ti H b ys ∧ xs.length = ys.length ∧ xs.length ≤ 1000 ∧ ∀ t H', Ex0 H H' → Ti H' t (List.zipWith (· + ·) xs ys) → Q (.ref t) H'
def sp_l_many (_ : PySem.W.Frag) (_ _ : Addr) : Sp := fun vs H Q _ => ∃ (n : Int) (a : Addr) (xs : List Int), vs = [.int n, .ref a] ∧ Ti H a xs ∧ B 100000 n ∧ (∀ x ∈ xs, B 100000 x) ∧ xs.length ≤ 1000 ∧ ∀ t H', Ex0 H H' → Ti H' t (xs.map fun x => n * x) → Q (.ref t) H'
def sp_l_value (_ : PySem.W.Frag) (_ _ : Addr) : Sp := fun vs H Q _ => ∃ (a : Addr) (xs : List Int) (x y : Int), vs = [.ref a, .int x, .int y] ∧ Ti H a xs ∧ B 200 x ∧ B 200 y ∧ (∀ z ∈ xs, B 200 z) ∧ xs.length ≤ 8 ∧ ∀ H', Ex0 H H' → Q (.int (valN xs x y xs.length).1) H'
def sp_l_put (_ : PySem.W.Frag) (_ _ : Addr) : Sp := fun vs H Q _ => ∃ (a u : Addr) (row : List Int) (p q r s : Int), vs = [.ref a, .ref u] ∧ Ti H a row ∧ T4 H u p q r s ∧ (∀ e ∈ row, B 400 e) ∧ 2 ≤ row.length ∧ row.length ≤ 11 ∧ B 400 p ∧ B 400 q ∧ B 400 r ∧ B 400 s ∧ ∀ t H', Ex0 H H' → Ti H' t (putN row p q r s row.length) → Q (.ref t) H'
def sp_l_led (_ : PySem.W.Frag) (_ _ : Addr) : Sp := fun vs H Q _ => ∃ (t u : Addr) (a b c d p q r s : Int), vs = [.ref t, .ref u] ∧ Ti H t [a, b, c, d] ∧ T4 H u p q r s ∧ B 400 a ∧ B 400 b ∧ B 400 c ∧ B 400 d ∧ B 400 p ∧ B 400 q ∧ B 400 r ∧ B 400 s ∧ ∀ x H', Ex0 H H' → Ti H' x (fled a b c d p q r s) → Q (.ref x) H'
def sp_l_discriminant (_ : PySem.W.Frag) (_ _ : Addr) : Sp := fun vs H Q _ => ∃ (t : Addr) (a b c d : Int), vs = [.ref t] ∧ Ti H t [a, b, c, d] ∧ B 400 a ∧ B 400 b ∧ B 400 c ∧ B 400 d ∧ Q (.int (fdisc a b c d)) H
theorem pl1 (e p r : Int) : prodL [e] [p, r] = [e * p, e * r] := by
  show [0 + e * p, 0 + e * r] = [e * p, e * r]
  simp only [Int.zero_add]
theorem pl2 (u v p r : Int) : prodL [u, v] [p, r] = [u * p, u * r + v * p, v * r] := by
  show [0 + u * p, 0 + u * r + v * p, 0 + v * r] = [u * p, u * r + v * p, v * r]
  simp only [Int.zero_add]
theorem pl3 (u v x p r : Int) : prodL [u, v, x] [p, r] = [u * p, u * r + v * p, v * r + x * p, x * r] := by
  show [0 + u * p, 0 + u * r + v * p, 0 + v * r + x * p, 0 + x * r] = [u * p, u * r + v * p, v * r + x * p, x * r]
  simp only [Int.zero_add]
theorem part0 (e p q r s : Int) : partN 4 e p q r s 0 3 = prodL (prodL (prodL [e] [p, r]) [p, r]) [p, r] := rfl
theorem part1 (e p q r s : Int) : partN 4 e p q r s 1 3 = prodL (prodL (prodL [e] [p, r]) [p, r]) [q, s] := rfl
theorem part2 (e p q r s : Int) : partN 4 e p q r s 2 3 = prodL (prodL (prodL [e] [p, r]) [q, s]) [q, s] := rfl
theorem part3 (e p q r s : Int) : partN 4 e p q r s 3 3 = prodL (prodL (prodL [e] [q, s]) [q, s]) [q, s] := rfl
theorem put_4 (a b c d p q r s : Int) : putN [a, b, c, d] p q r s 4 = List.zipWith (· + ·) (List.zipWith (· + ·) (List.zipWith (· + ·) (List.zipWith (· + ·) [0, 0, 0, 0] (partN 4 a p q r s 0 3)) (partN 4 b p q r s 1 3)) (partN 4 c p q r s 2 3)) (partN 4 d p q r s 3 3) := rfl
theorem put_list (a b c d p q r s : Int) : putN [a, b, c, d] p q r s 4 = [fv a b c d p q, fl2 a b c d p q r s, fl3 a b c d p q r s, fv a b c d r s] := by
  rw [put_4, part0, part1, part2, part3]
  simp only [pl1, pl2, pl3, List.zipWith_cons_cons, List.zipWith_nil_left, List.cons.injEq, and_true]
  unfold fv fl2 fl3
  refine ⟨?_, ?_, ?_, ?_⟩ <;> grind
theorem put_led (a b c d p q r s : Int) : ((putN [a, b, c, d] p q r s 4).map fun x => (p * s - q * r) * x) = fled a b c d p q r s := by
  rw [put_list]
  rfl
section
variable {P : Program} {w : World} {K : PySem.W.Frag} {mg : Str → Option Value} {base : Heap} {C_Form C_Double : Addr}
theorem ok_l_product (T : Txt K mg C_Form C_Double) : Def P w K mg base 1 "_law_product" ["_law_one_here", "_law_other"] (sp_l_product K C_Form C_Double) := by
  obtain ⟨f_, fd_, g_, F_⟩ := T.d_l_product
  refine ⟨f_, fd_, g_, F_.kp, F_.binds (ps := ["_law_one_here", "_law_other"]) (fun _ _ _ _ _ _ us hl => match us, hl with | [_, _], _ => rfl), ?_⟩
  refine F_.ok sc_l_product (fun vs H Q E h => ?_) (fun cdv A outer s H vs Q E hr h => ?_)
  · first | (obtain ⟨rfl, _⟩ := h; rfl) | (obtain ⟨_, rfl, _⟩ := h; rfl) | (obtain ⟨_, _, rfl, _⟩ := h; rfl) | (obtain ⟨_, _, _, rfl, _⟩ := h; rfl) | (obtain ⟨_, _, _, _, rfl, _⟩ := h; rfl) | (obtain ⟨_, _, _, _, _, rfl, _⟩ := h; rfl) | (obtain ⟨_, _, _, _, _, _, rfl, _⟩ := h; rfl) | (obtain ⟨_, _, _, _, _, _, _, rfl, _⟩ := h; rfl) | (obtain ⟨_, _, _, _, _, _, _, _, rfl, _⟩ := h; rfl) | (obtain ⟨_, _, _, _, _, _, _, _, _, rfl, _⟩ := h; rfl) | (obtain ⟨_, _, _, _, _, _, _, _, _, _, rfl, _⟩ := h; rfl) | (obtain ⟨_, _, _, _, _, _, _, _, _, _, _, rfl, _⟩ := h; rfl) | (obtain ⟨_, _, _, _, _, _, _, _, _, _, _, _, rfl, _⟩ := h; rfl) | (obtain ⟨_, _, _, _, _, _, _, _, _, _, _, _, _, rfl, _⟩ := h; rfl) | (obtain ⟨_, _, _, _, _, _, _, _, _, _, _, _, _, _, rfl, _⟩ := h; rfl) | (obtain ⟨_, _, _, _, _, _, _, _, _, _, _, _, _, _, _, rfl, _⟩ := h; rfl) | (obtain ⟨_, _, _, _, _, _, _, _, _, _, _, _, _, _, _, _, rfl, _⟩ := h; rfl) | (obtain ⟨_, _, _, _, _, _, _, _, _, _, _, _, _, _, _, _, _, rfl, _⟩ := h; rfl) | (obtain ⟨_, _, _, _, _, _, _, _, _, _, _, _, _, _, _, _, _, _, rfl, _⟩ := h; rfl) | (obtain ⟨_, _, _, _, _, _, _, _, _, _, _, _, _, _, _, _, _, _, _, rfl, _⟩ := h; rfl) | (obtain ⟨_, _, _, _, _, _, _, _, _, _, _, _, _, _, _, _, _, _, _, _, rfl, _⟩ := h; rfl) | (obtain ⟨_, _, _, _, _, _, _, _, _, _, _, _, _, _, _, _, _, _, _, _, _, rfl, _⟩ := h; rfl) | (obtain ⟨_, _, _, _, _, _, _, _, _, _, _, _, _, _, _, _, _, _, _, _, _, _, rfl, _⟩ := h; rfl) | (obtain ⟨_, _, _, _, _, _, _, _, _, _, _, _, _, _, _, _, _, _, _, _, _, _, _, rfl, _⟩ := h; rfl)
  · obtain ⟨a, b, xs, ys, rfl, ha, hb, bx, by', hx0, hx, hy, q⟩ := h
    refine ⟨_, (pss_cons (ps_set (i := 2) sc_l_product.nd rfl (.inl rfl) (pe_op op_rep (pe_lst (pa_cons pe_int pa_nil)) (pe_op op_sub (pe_op op_add (pe_callB call_len_seq (by rfl) T.b_len PySem.boot_len (pa_cons (pv 0) pa_nil)) (pe_callB call_len_seq (by rfl) T.b_len PySem.boot_len (pa_cons (pv 1) pa_nil))) pe_int)))
    (pss_cons (ps_for PassesOwn.never rfl (pi_enumT (by rfl) T.b_enumerate (pa_cons (pv 0) pa_nil)) (pg_tup (by rfl) (pgs_cons (pg_name (i := 3) sc_l_product.nd rfl (.inl rfl)) (pgs_cons (pg_name (i := 4) sc_l_product.nd rfl (.inl rfl)) pgs_nil)))
      (pss_one (ps_for PassesOwn.never rfl (pi_enumT (by rfl) T.b_enumerate (pa_cons (pv 1) pa_nil)) (pg_tup (by rfl) (pgs_cons (pg_name (i := 5) sc_l_product.nd rfl (.inl rfl)) (pgs_cons (pg_name (i := 6) sc_l_product.nd rfl (.inl rfl)) pgs_nil)))
      (pss_one (ps_asg (pe_op op_add (pe_ix ix_list (pv 2) (pe_op op_add (pv 3) (pv 5)) (fun _ _ => rfl)) (pe_op op_mulW (pv 4) (pv 6))) (pg_sub (pv 2) (pe_op op_add (pv 3) (pv 5)) set_list))))))
    (pss_one (ps_ret (pe_callTy call_tuple_of (by rfl) T.b_tuple (by decide +kernel) (pa_cons (pv 2) pa_nil)))))), ?_⟩
    refine ⟨sl1, fun l nl => ?_⟩
    have e0 : Ex0 H (upd H l (.lst [.int 0])) := Ex0.new nl
    refine ⟨_, rfl, a, _, rfl, .inr (SqT.of (Ex0.ti e0 ha)), _, rfl, b, _, rfl, .inr (SqT.of (Ex0.ti e0 hb)), _, _, rfl, rfl, _, _, rfl, rfl, ?_⟩
    rw [List.length_map, List.length_map]
    refine ⟨l, _, [.int 0], rfl, rfl, upd_same, by omega, by omega, Nat.le_trans (show ([V.int 0] : List V).length * ((xs.length : Int) + (ys.length : Int) - 1).toNat ≤ 2000 by show 1 * _ ≤ _; omega) (by decide), fun p np => ?_⟩
    have hp0 : H p = none := Fx.free e0 (fun z => z) np
    have e1 : Ex0 H (upd (upd H l (.lst [.int 0])) p (.lst (List.replicate ((xs.length : Int) + (ys.length : Int) - 1).toNat [V.int 0]).flatten)) := e0.trans (Ex0.new np)
    refine ⟨_, rfl, a, _, rfl, SqT.of (Ex0.ti e1 ha), for_P walk_enumT (fun i σ H' => ∃ y3 y4 y5 y6, σ = [some (.ref a), some (.ref b), some (.ref p), y3, y4, y5, y6] ∧ Ex0 H H' ∧ H' p = some (.lst ((prodN xs ys i).map V.int))) ⟨none, none, none, none, rfl, e1, ?_⟩ (fun i σ H' _ ⟨_, _, _, _, _, e, _⟩ => SqT.of (Ex0.ti e ha)) ?_ ?_⟩
    · rw [upd_same, zeros, prodN, show ((xs.length : Int) + (ys.length : Int) - 1).toNat = xs.length + ys.length - 1 by omega]
    · rintro i T x y σ H' hi fx fy ⟨y3, y4, y5, y6, rfl, e, hp⟩ hT
      obtain rfl := Option.some.inj fx
      obtain ⟨rfl, hi'⟩ := get_D fy
      have e2 : Ex0 H (upd H' T (.tup [.int (i : Int), .int (xs.getD i 0)])) := e.trans (Ex0.new hT)
      have hp2 : (upd H' T (.tup [.int (i : Int), .int (xs.getD i 0)])) p = some (.lst ((prodN xs ys i).map V.int)) := by rw [upd_ne (ne_of_none hp hT)]; exact hp
      refine ⟨T, _, rfl, SqT.of upd_same, rfl, _, _, rfl, _, _, rfl, rfl, ?_⟩
      refine ⟨_, rfl, b, _, rfl, SqT.of (Ex0.ti e2 hb), for_P walk_enumT (fun j σ H'' => ∃ y5 y6, σ = [some (.ref a), some (.ref b), some (.ref p), some (.int (i : Int)), some (.int (xs.getD i 0)), y5, y6] ∧ Ex0 H H'' ∧ H'' p = some (.lst ((rowN (prodN xs ys i) i (xs.getD i 0) ys j).map V.int))) ⟨y5, y6, rfl, e2, hp2⟩ (fun j σ H'' _ ⟨_, _, _, e, _⟩ => SqT.of (Ex0.ti e hb)) ?_ ?_⟩
      · rintro j T2 x2 y2 σ H'' hj fx2 fy2 ⟨y5, y6, rfl, e3, hp3⟩ hT2
        obtain rfl := Option.some.inj fx2
        obtain ⟨rfl, hj'⟩ := get_D fy2
        have e4 : Ex0 H (upd H'' T2 (.tup [.int (j : Int), .int (ys.getD j 0)])) := e3.trans (Ex0.new hT2)
        have hp4 : (upd H'' T2 (.tup [.int (j : Int), .int (ys.getD j 0)])) p = some (.lst ((rowN (prodN xs ys i) i (xs.getD i 0) ys j).map V.int)) := by rw [upd_ne (ne_of_none hp3 hT2)]; exact hp3
        have hk : i + j < (rowN (prodN xs ys i) i (xs.getD i 0) ys j).length := by rw [rowN_len, prodN_len]; omega
        have ij : (i : Int) + (j : Int) = ((i + j : Nat) : Int) := (Int.natCast_add i j).symm
        refine ⟨T2, _, rfl, SqT.of upd_same, rfl, _, _, rfl, _, _, rfl, rfl, ?_⟩
        refine ⟨_, rfl, _, rfl, _, rfl, _, _, rfl, rfl, p, _, _, _, rfl, rfl, SqL.of hp4, by rw [ij]; exact atI_nat (get_map hk), ?_⟩
        refine ⟨_, rfl, _, rfl, _, _, rfl, rfl, mulB (bx _ (gD_mem hi')) (by' _ (gD_mem hj')) (by decide), _, _, rfl, rfl, ?_⟩
        refine ⟨_, rfl, _, rfl, _, rfl, _, _, rfl, rfl, p, _, _, i + j, rfl, rfl, hp4, by rw [ij]; exact Evl.ixN_nat (by rw [List.length_map]; exact hk), ?_⟩
        refine ⟨_, _, rfl, Fx.mut fm0 e4 trivial hp0, ?_⟩
        rw [upd_same, rowN, addAt, List.map_set]
      · rintro σ H'' ⟨y5, y6, rfl, e3, hp3⟩
        rw [List.length_map] at hp3
        exact ⟨_, _, _, _, rfl, e3, hp3⟩
    · rintro σ H' ⟨y3, y4, y5, y6, rfl, e, hp⟩
      rw [List.length_map] at hp
      refine ⟨_, rfl, p, _, rfl, .inl ⟨SqL.of hp, fun u nu => ?_⟩⟩
      exact q u _ (e.trans (Ex0.new nu)) upd_same
theorem ok_l_discriminant (T : Txt K mg C_Form C_Double) : Def P w K mg base 1 "_law_discriminant" ["_law_row"] (sp_l_discriminant K C_Form C_Double) := by
  obtain ⟨f_, fd_, g_, F_⟩ := T.d_l_discriminant
  refine ⟨f_, fd_, g_, F_.kp, F_.binds (ps := ["_law_row"]) (fun _ _ _ _ _ _ us hl => match us, hl with | [_], _ => rfl), ?_⟩
  refine F_.ok sc_l_discriminant (fun vs H Q E h => ?_) (fun cdv A outer s H vs Q E hr h => ?_)
  · first | (obtain ⟨rfl, _⟩ := h; rfl) | (obtain ⟨_, rfl, _⟩ := h; rfl) | (obtain ⟨_, _, rfl, _⟩ := h; rfl) | (obtain ⟨_, _, _, rfl, _⟩ := h; rfl) | (obtain ⟨_, _, _, _, rfl, _⟩ := h; rfl) | (obtain ⟨_, _, _, _, _, rfl, _⟩ := h; rfl) | (obtain ⟨_, _, _, _, _, _, rfl, _⟩ := h; rfl) | (obtain ⟨_, _, _, _, _, _, _, rfl, _⟩ := h; rfl) | (obtain ⟨_, _, _, _, _, _, _, _, rfl, _⟩ := h; rfl) | (obtain ⟨_, _, _, _, _, _, _, _, _, rfl, _⟩ := h; rfl) | (obtain ⟨_, _, _, _, _, _, _, _, _, _, rfl, _⟩ := h; rfl) | (obtain ⟨_, _, _, _, _, _, _, _, _, _, _, rfl, _⟩ := h; rfl) | (obtain ⟨_, _, _, _, _, _, _, _, _, _, _, _, rfl, _⟩ := h; rfl) | (obtain ⟨_, _, _, _, _, _, _, _, _, _, _, _, _, rfl, _⟩ := h; rfl) | (obtain ⟨_, _, _, _, _, _, _, _, _, _, _, _, _, _, rfl, _⟩ := h; rfl) | (obtain ⟨_, _, _, _, _, _, _, _, _, _, _, _, _, _, _, rfl, _⟩ := h; rfl) | (obtain ⟨_, _, _, _, _, _, _, _, _, _, _, _, _, _, _, _, rfl, _⟩ := h; rfl) | (obtain ⟨_, _, _, _, _, _, _, _, _, _, _, _, _, _, _, _, _, rfl, _⟩ := h; rfl) | (obtain ⟨_, _, _, _, _, _, _, _, _, _, _, _, _, _, _, _, _, _, rfl, _⟩ := h; rfl) | (obtain ⟨_, _, _, _, _, _, _, _, _, _, _, _, _, _, _, _, _, _, _, rfl, _⟩ := h; rfl) | (obtain ⟨_, _, _, _, _, _, _, _, _, _, _, _, _, _, _, _, _, _, _, _, rfl, _⟩ := h; rfl) | (obtain ⟨_, _, _, _, _, _, _, _, _, _, _, _, _, _, _, _, _, _, _, _, _, rfl, _⟩ := h; rfl) | (obtain ⟨_, _, _, _, _, _, _, _, _, _, _, _, _, _, _, _, _, _, _, _, _, _, rfl, _⟩ := h; rfl) | (obtain ⟨_, _, _, _, _, _, _, _, _, _, _, _, _, _, _, _, _, _, _, _, _, _, _, rfl, _⟩ := h; rfl)
  · obtain ⟨t, a, b, c, d, rfl, ht, ba, bb, bc, bd, q⟩ := h
    refine ⟨_, (pss_cons (ps_asg (pv 0) (pg_tup (by rfl) (pgs_cons (pg_name (i := 1) sc_l_discriminant.nd rfl (.inl rfl)) (pgs_cons (pg_name (i := 2) sc_l_discriminant.nd rfl (.inl rfl)) (pgs_cons (pg_name (i := 3) sc_l_discriminant.nd rfl (.inl rfl)) (pgs_cons (pg_name (i := 4) sc_l_discriminant.nd rfl (.inl rfl)) pgs_nil))))))
    (pss_one (ps_ret (pe_op op_fdivW (pe_op op_sub (pe_op op_mulW (pe_op op_mulW pe_int (pe_op op_sub (pe_op op_mulW (pv 2) (pv 2)) (pe_op op_mulW (pe_op op_mulW pe_int (pv 1)) (pv 3)))) (pe_op op_sub (pe_op op_mulW (pv 3) (pv 3)) (pe_op op_mulW (pe_op op_mulW pe_int (pv 2)) (pv 4)))) (pe_op op_mulW (pe_op op_sub (pe_op op_mulW (pv 2) (pv 3)) (pe_op op_mulW (pe_op op_mulW pe_int (pv 1)) (pv 4))) (pe_op op_sub (pe_op op_mulW (pv 2) (pv 3)) (pe_op op_mulW (pe_op op_mulW pe_int (pv 1)) (pv 4))))) pe_int)))), ?_⟩
    refine ⟨_, rfl, unI4 ht ?_⟩
    refine ⟨_, rfl, _, rfl, _, _, rfl, rfl, mulB (by with_reducible assumption) (by with_reducible assumption) (by decide), _, rfl, _, _, rfl, rfl, mulB (B.lit (by decide)) (by with_reducible assumption) (by decide), _, rfl, _, _, rfl, rfl, mulB (B.mul (B.lit (by decide)) (by with_reducible assumption)) (by with_reducible assumption) (by decide), _, _, rfl, rfl, _, _, rfl, rfl, mulB (B.lit (by decide)) (B.sub (B.mul (by with_reducible assumption) (by with_reducible assumption)) (B.mul (B.mul (B.lit (by decide)) (by with_reducible assumption)) (by with_reducible assumption))) (by decide), _, rfl, _, rfl, _, _, rfl, rfl, mulB (by with_reducible assumption) (by with_reducible assumption) (by decide), _, rfl, _, _, rfl, rfl, mulB (B.lit (by decide)) (by with_reducible assumption) (by decide), _, rfl, _, _, rfl, rfl, mulB (B.mul (B.lit (by decide)) (by with_reducible assumption)) (by with_reducible assumption) (by decide), _, _, rfl, rfl, _, _, rfl, rfl, mulB (B.mul (B.lit (by decide)) (B.sub (B.mul (by with_reducible assumption) (by with_reducible assumption)) (B.mul (B.mul (B.lit (by decide)) (by with_reducible assumption)) (by with_reducible assumption)))) (B.sub (B.mul (by with_reducible assumption) (by with_reducible assumption)) (B.mul (B.mul (B.lit (by decide)) (by with_reducible assumption)) (by with_reducible assumption))) (by decide), _, rfl, _, rfl, _, _, rfl, rfl, mulB (by with_reducible assumption) (by with_reducible assumption) (by decide), _, rfl, _, _, rfl, rfl, mulB (B.lit (by decide)) (by with_reducible assumption) (by decide), _, rfl, _, _, rfl, rfl, mulB (B.mul (B.lit (by decide)) (by with_reducible assumption)) (by with_reducible assumption) (by decide), _, _, rfl, rfl, _, rfl, _, rfl, _, _, rfl, rfl, mulB (by with_reducible assumption) (by with_reducible assumption) (by decide), _, rfl, _, _, rfl, rfl, mulB (B.lit (by decide)) (by with_reducible assumption) (by decide), _, rfl, _, _, rfl, rfl, mulB (B.mul (B.lit (by decide)) (by with_reducible assumption)) (by with_reducible assumption) (by decide), _, _, rfl, rfl, _, _, rfl, rfl, mulB (B.sub (B.mul (by with_reducible assumption) (by with_reducible assumption)) (B.mul (B.mul (B.lit (by decide)) (by with_reducible assumption)) (by with_reducible assumption))) (B.sub (B.mul (by with_reducible assumption) (by with_reducible assumption)) (B.mul (B.mul (B.lit (by decide)) (by with_reducible assumption)) (by with_reducible assumption))) (by decide), _, _, rfl, rfl, _, _, rfl, rfl, dw (by decide) (by decide), ?_⟩
    rw [show 4 * (b * b - 3 * a * c) * (c * c - 3 * b * d) - (b * c - 9 * a * d) * (b * c - 9 * a * d) = 3 * fdisc a b c d by unfold fdisc; grind]
    show Q (.int (3 * fdisc a b c d / 3)) H
    rw [Int.mul_ediv_cancel_left _ (by decide)]
    exact q
end
end TF
namespace TF
open PySem PySem.Spec PyProof.Rows L2 Fr
theorem made_ex {H H' : Hp} {x dx : Addr} {o1 o2 : HO} (nx : H x = none) (ndx : H dx = none) (e1 : ∀ b o, b ≠ x → (upd (upd H dx o1) x o2) b = some o → H' b = some o) : Ex0 H H' := Ex0.of fun b o e => by
  have n1 : b ≠ x := ne_of_none e nx
  have n2 : b ≠ dx := ne_of_none e ndx
  refine e1 b o n1 ?_
  rw [upd_ne n1, upd_ne n2]
  exact e
theorem made_at {H : Hp} {x dx t : Addr} {o1 o2 : HO} {xs : List V} (nx : H x = none) (ndx : H dx = none) (h : H t = some (.tup xs)) : upd (upd H dx o1) x o2 t = some (.tup xs) := by
  rw [upd_ne (ne_of_none h nx), upd_ne (ne_of_none h ndx)]
  exact h
theorem ex_two {H : Hp} {x dx : Addr} {o1 o2 : HO} (nx : H x = none) (ndx : H dx = none) : Ex0 H (upd (upd H dx o1) x o2) := Ex0.of fun b o e => by
  rw [upd_ne (ne_of_none e nx), upd_ne (ne_of_none e ndx)]
  exact e
theorem fo_made {C : Addr} {H H' : Hp} {x dx t : Addr} {ns : List Int} {o1 o2 : HO} (nx : H x = none) (ndx : H dx = none) (ht : Ti H t ns) (e1 : ∀ b o, b ≠ x → (upd (upd H dx o1) x o2) b = some o → H' b = some o)
    (e2 : H' x = some (.ins C dx [(("_coefficients" : Str), .ref t)])) : Ex0 H H' ∧ FormAt C H' x ns :=
  ⟨made_ex nx ndx e1, dx, t, e2, Ex0.ti (made_ex nx ndx e1) ht⟩
end TF
namespace TF
open PySem PySem.Spec PyProof.Rows L2 Fr
open K05M (fv fl2 fl3 fdisc)
open K06M
theorem B.plus {n : Nat} {i j : Int} (h1 : B n i) (h2 : B n j) : B (n + 1) (i + j) := ⟨by
  have a := h1.1
  have b := h2.1
  rw [Nat.pow_succ]
  omega, by omega⟩
theorem B.less {n : Nat} {i j : Int} (h1 : B n i) (h2 : B n j) : B (n + 1) (i - j) := ⟨by
  have a := h1.1
  have b := h2.1
  rw [Nat.pow_succ]
  omega, by omega⟩
theorem short_B {i : Int} (h : B 190 i) : Short i := by
  have h1 : i.natAbs < 1569275433846670190958947355801916604025588861116008628224 := h.1
  exact ⟨by omega, by omega⟩
theorem e_B {e : Int} (h : e = 1 ∨ e = -1) : B 1 e := by
  rcases h with rfl | rfl <;> exact ⟨by decide, by decide⟩
theorem dv_B {a b c x y : Int} {n m : Nat} (ha : B n a) (hb : B n b) (hc : B n c) (hx : B m x) (hy : B m y) : B (n + m + m + 2) (dv a b c x y) :=
  B.plus (B.plus (B.mul (B.mul ha hx) hx) (B.mul (B.mul hb hx) hy)) ((B.mul (B.mul hc hy) hy).mono (by omega))
theorem gcd_dvd {g : Nat} : ∀ (ns : List Int) (x : Nat), g ∣ ns.foldl (fun g n => Nat.gcd g n.natAbs) x ↔ g ∣ x ∧ ∀ n ∈ ns, (g : Int) ∣ n
  | [], x => by simp
  | n :: ns, x => by
    rw [List.foldl_cons, gcd_dvd ns, Nat.dvd_gcd_iff, List.forall_mem_cons, Int.ofNat_dvd_left]
    constructor
    · rintro ⟨⟨h1, h2⟩, h3⟩; exact ⟨h1, h2, h3⟩
    · rintro ⟨h1, h2, h3⟩; exact ⟨⟨h1, h2⟩, h3⟩
theorem gcdL_dvd {g : Nat} {ns : List Int} : g ∣ gcdL ns ↔ ∀ n ∈ ns, (g : Int) ∣ n := by
  unfold gcdL
  rw [gcd_dvd]
  simp
theorem Gd.ok {p q r s : Int} (h : Gd 4 p q r s) : ChOk p q r s := by
  obtain ⟨h1, h2, h3, h4⟩ := h.b (Nat.le_refl _)
  exact ⟨short_B (h1.mono (by decide)), short_B (h2.mono (by decide)), short_B (h3.mono (by decide)), short_B (h4.mono (by decide)), h.2.2.2.2⟩
theorem join_ok {p q r s i j k m : Int} (h : Gd 4 p q r s) (g : Gd 4 i j k m) : ChOk (i * p + j * r) (i * q + j * s) (k * p + m * r) (k * q + m * s) := by
  obtain ⟨h1, h2, h3, h4⟩ := h.b (Nat.le_refl _)
  obtain ⟨g1, g2, g3, g4⟩ := g.b (Nat.le_refl _)
  refine ⟨short_B ((B.plus (B.mul g1 h1) (B.mul g2 h3)).mono (by decide)), short_B ((B.plus (B.mul g1 h2) (B.mul g2 h4)).mono (by decide)), short_B ((B.plus (B.mul g3 h1) (B.mul g4 h3)).mono (by decide)), short_B ((B.plus (B.mul g3 h2) (B.mul g4 h4)).mono (by decide)), ?_⟩
  rw [K05M.det_mul]
  rcases h.2.2.2.2 with e | e <;> rcases g.2.2.2.2 with f | f <;> rw [e, f] <;> decide
theorem und_ok {p q r s : Int} (h : Gd 4 p q r s) : ChOk ((p * s - q * r) * s) (-(p * s - q * r) * q) (-(p * s - q * r) * r) ((p * s - q * r) * p) := by
  obtain ⟨h1, h2, h3, h4⟩ := h.b (Nat.le_refl _)
  have e := e_B h.2.2.2.2
  refine ⟨short_B ((B.mul e h4).mono (by decide)), short_B ((B.mul e.neg h2).mono (by decide)), short_B ((B.mul e.neg h3).mono (by decide)), short_B ((B.mul e h1).mono (by decide)), ?_⟩
  rcases h.2.2.2.2 with f | f
  · left
    rw [f]
    grind
  · right
    rw [f]
    grind
theorem Ex0.q4 {H H' : Hp} {a : Addr} {p q r s : Int} (e : Ex0 H H') (h : T4 H a p q r s) : T4 H' a p q r s := h.ex fun _ _ z => Ex0.ap e z
theorem t4_fv {c : Addr} {H H' : Hp} {a : Addr} {p q r s : Int} (hc : Vat c H) (f : Fv c H H') (h : T4 H a p q r s) : T4 H' a p q r s := h.ex fun _ _ z => fv_tup hc f z
theorem fo_fv {C c : Addr} {H H' : Hp} {x : Addr} {ns : List Int} (hc : Vat c H) (f : Fv c H H') (h : FormAt C H x ns) : FormAt C H' x ns := by
  obtain ⟨dx, t, h1, h2⟩ := h
  refine ⟨dx, t, f.2 x _ (fun e => ?_) h1, fv_tup hc f h2⟩
  obtain ⟨u, v, z, q⟩ := hc
  unfold Sv at e
  rw [e, q] at h1
  cases h1
theorem tpart0 (e p q r s : Int) : partN 3 e p q r s 0 2 = prodL (prodL [e] [p, r]) [p, r] := rfl
theorem tpart1 (e p q r s : Int) : partN 3 e p q r s 1 2 = prodL (prodL [e] [p, r]) [q, s] := rfl
theorem tpart2 (e p q r s : Int) : partN 3 e p q r s 2 2 = prodL (prodL [e] [q, s]) [q, s] := rfl
theorem put_3 (a b c p q r s : Int) : putN [a, b, c] p q r s 3 = List.zipWith (· + ·) (List.zipWith (· + ·) (List.zipWith (· + ·) [0, 0, 0] (partN 3 a p q r s 0 2)) (partN 3 b p q r s 1 2)) (partN 3 c p q r s 2 2) := rfl
def dled (a b c p q r s : Int) : List Int := [dv a b c p q, dl a b c p q r s, dv a b c r s]
theorem put_dled (a b c p q r s : Int) : putN [a, b, c] p q r s 3 = dled a b c p q r s := by
  rw [put_3, tpart0, tpart1, tpart2]
  simp only [pl1, pl2, List.zipWith_cons_cons, List.zipWith_nil_left]
  unfold dled dv K06M.dl
  simp only [List.cons.injEq, and_true]
  refine ⟨?_, ?_, ?_⟩ <;> grind
theorem dput1 (a b c p q r s i j : Int) : dv (dv a b c p q) (dl a b c p q r s) (dv a b c r s) i j = dv a b c (i * p + j * r) (i * q + j * s) := by
  unfold dv K06M.dl
  grind
theorem dput2 (a b c p q r s i j k m : Int) : dl (dv a b c p q) (dl a b c p q r s) (dv a b c r s) i j k m = dl a b c (i * p + j * r) (i * q + j * s) (k * p + m * r) (k * q + m * s) := by
  unfold dv K06M.dl
  grind
theorem dcomp (a b c p q r s i j k m : Int) : dled (dv a b c p q) (dl a b c p q r s) (dv a b c r s) i j k m = dled a b c (i * p + j * r) (i * q + j * s) (k * p + m * r) (k * q + m * s) := by
  unfold dled
  rw [dput1, dput1, dput2]
theorem done_ (a b c : Int) : dled a b c 1 0 0 1 = [a, b, c] := by
  unfold dled dv K06M.dl
  simp
theorem dback (a b c p q r s : Int) (h : p * s - q * r = 1 ∨ p * s - q * r = -1) : dled (dv a b c p q) (dl a b c p q r s) (dv a b c r s) ((p * s - q * r) * s) (-(p * s - q * r) * q) (-(p * s - q * r) * r) ((p * s - q * r) * p) = [a, b, c] := by
  obtain ⟨u1, u2, u3, u4⟩ := K05M.und p q r s _ rfl h
  rw [dcomp, u1, u2, u3, u4]
  exact done_ a b c
theorem ddisc_led (a b c p q r s : Int) : ddisc (dv a b c p q) (dl a b c p q r s) (dv a b c r s) = (p * s - q * r) * (p * s - q * r) * ddisc a b c := by
  unfold ddisc dv K06M.dl
  grind
theorem ddisc_led1 (a b c p q r s : Int) (h : p * s - q * r = 1 ∨ p * s - q * r = -1) : ddisc (dv a b c p q) (dl a b c p q r s) (dv a b c r s) = ddisc a b c := by
  rw [ddisc_led]
  rcases h with h | h <;> rw [h] <;> simp
theorem ddvd_led {g a b c : Int} (p q r s : Int) (ha : g ∣ a) (hb : g ∣ b) (hc : g ∣ c) : ∀ n ∈ dled a b c p q r s, g ∣ n := by
  obtain ⟨a, rfl⟩ := ha
  obtain ⟨b, rfl⟩ := hb
  obtain ⟨c, rfl⟩ := hc
  intro n hn
  unfold dled dv K06M.dl at hn
  simp only [List.mem_cons, List.mem_nil_iff, or_false] at hn
  rcases hn with rfl | rfl | rfl
  · exact ⟨a * p * p + b * p * q + c * q * q, by grind⟩
  · exact ⟨2 * a * p * r + b * (p * s + q * r) + 2 * c * q * s, by grind⟩
  · exact ⟨a * r * r + b * r * s + c * s * s, by grind⟩
theorem dgcd_dvd (a b c p q r s : Int) : gcdL [a, b, c] ∣ gcdL (dled a b c p q r s) := by
  have h := (gcdL_dvd (g := gcdL [a, b, c]) (ns := [a, b, c])).mp (Nat.dvd_refl _)
  exact gcdL_dvd.mpr (ddvd_led p q r s (h a (by simp)) (h b (by simp)) (h c (by simp)))
theorem dgcd_led (a b c p q r s : Int) (h : p * s - q * r = 1 ∨ p * s - q * r = -1) : gcdL (dled a b c p q r s) = gcdL [a, b, c] := by
  refine Nat.dvd_antisymm ?_ (dgcd_dvd a b c p q r s)
  have := dgcd_dvd (dv a b c p q) (dl a b c p q r s) (dv a b c r s) ((p * s - q * r) * s) (-(p * s - q * r) * q) (-(p * s - q * r) * r) ((p * s - q * r) * p)
  rw [dback a b c p q r s h] at this
  exact this
theorem dval_3 (a b c x y : Int) : (valN [a, b, c] x y 3).1 = dv a b c x y := by
  show ((0 * x + a * 1) * x + b * (1 * y)) * x + c * (1 * y * y) = _
  unfold dv
  grind
theorem dval_led (a b c p q r s x y : Int) : dv (dv a b c p q) (dl a b c p q r s) (dv a b c r s) x y = dv a b c (p * x + r * y) (q * x + s * y) := by
  rw [dput1, Int.mul_comm x p, Int.mul_comm y r, Int.mul_comm x q, Int.mul_comm y s]
theorem dled_B {a b c p q r s : Int} (ha : B 84 a) (hb : B 84 b) (hc : B 84 c) (hp : B 81 p) (hq : B 81 q) (hr : B 81 r) (hs : B 81 s) : ∀ n ∈ dled a b c p q r s, B 1000 n := by
  have b2 : B 2 2 := ⟨by decide, by decide⟩
  have f1 : B 998 (dv a b c p q) := (dv_B ha hb hc hp hq).mono (by decide)
  have f3 : B 998 (dv a b c r s) := (dv_B ha hb hc hr hs).mono (by decide)
  have f2 : B 998 (dl a b c p q r s) := (B.plus (B.plus (n := 900) ((B.mul (B.mul (B.mul b2 ha) hp) hr).mono (by decide)) ((B.mul hb (B.plus (B.mul hp hs) (B.mul hq hr))).mono (by decide))) ((B.mul (B.mul (B.mul b2 hc) hq) hs).mono (by decide))).mono (by decide)
  intro n hn
  unfold dled at hn
  simp only [List.mem_cons, List.mem_nil_iff, or_false] at hn
  rcases hn with rfl | rfl | rfl
  · exact f1.mono (by decide)
  · exact f2.mono (by decide)
  · exact f3.mono (by decide)
end TF
namespace TF
open PySem PySem.Spec PyProof.Rows L2 Fr
open K05M (fv fl2 fl3 fdisc)
open K06M
def byX (row : List Int) : List Int := (List.range (row.length - 1)).map fun (k : Nat) => ((row.length : Int) - 1 - (k : Int)) * row.getD k 0
def byY (row : List Int) : List Int := (List.range (row.length - 1)).map fun (k : Nat) => ((k : Int) + 1) * row.getD (k + 1) 0
theorem cut_last {row : List Int} (h : row ≠ []) : cutV (row.map V.int) none (some (-1)) = (row.take (row.length - 1)).map V.int := by
  have := List.length_pos_iff.mpr h
  rw [cut_map]
  have e1 : HT.sIx (row.map V.int).length 0 none = 0 := rfl
  have e2 : HT.sIx (row.map V.int).length (row.map V.int).length (some (-1)) = row.length - 1 := by
    show (if (-1 : Int) < 0 then ((-1 : Int) + ((row.map V.int).length : Int)).toNat else min (-1 : Int).toNat (row.map V.int).length) = _
    rw [if_pos (by decide), List.length_map]
    omega
  rw [e1, e2, List.drop_zero, Nat.sub_zero]
theorem cut_first {row : List Int} (h : row ≠ []) : cutV (row.map V.int) (some 1) none = (row.drop 1).map V.int := by
  have := List.length_pos_iff.mpr h
  rw [cut_map]
  have e1 : HT.sIx (row.map V.int).length 0 (some 1) = 1 := by
    show (if (1 : Int) < 0 then ((1 : Int) + ((row.map V.int).length : Int)).toNat else min (1 : Int).toNat (row.map V.int).length) = _
    rw [if_neg (by decide), List.length_map]
    show min 1 row.length = 1
    omega
  have e2 : HT.sIx (row.map V.int).length (row.map V.int).length none = (row.map V.int).length := rfl
  rw [e1, e2, List.length_map, List.take_of_length_le (by rw [List.length_drop]; omega)]
theorem last_not {row : List Int} (h : row ≠ []) : ¬ (HT.sIx (row.map V.int).length 0 none = 0 ∧ HT.sIx (row.map V.int).length (row.map V.int).length (some (-1)) = (row.map V.int).length) := by
  have := List.length_pos_iff.mpr h
  rintro ⟨_, e⟩
  have e2 : HT.sIx (row.map V.int).length (row.map V.int).length (some (-1)) = row.length - 1 := by
    show (if (-1 : Int) < 0 then ((-1 : Int) + ((row.map V.int).length : Int)).toNat else min (-1 : Int).toNat (row.map V.int).length) = _
    rw [if_pos (by decide), List.length_map]
    omega
  rw [e2, List.length_map] at e
  omega
theorem first_not {row : List Int} (h : row ≠ []) : ¬ (HT.sIx (row.map V.int).length 0 (some 1) = 0 ∧ HT.sIx (row.map V.int).length (row.map V.int).length none = (row.map V.int).length) := by
  have := List.length_pos_iff.mpr h
  rintro ⟨e, _⟩
  have e1 : HT.sIx (row.map V.int).length 0 (some 1) = 1 := by
    show (if (1 : Int) < 0 then ((1 : Int) + ((row.map V.int).length : Int)).toNat else min (1 : Int).toNat (row.map V.int).length) = _
    rw [if_neg (by decide), List.length_map]
    show min 1 row.length = 1
    omega
  rw [e1] at e
  cases e
def sp_l_by_x (_ : PySem.W.Frag) (_ _ : Addr) : Sp := fun vs H Q _ => ∃ (a : Addr) (row : List Int), vs = [.ref a] ∧ Ti H a row ∧ row ≠ [] ∧ row.length ≤ 10 ∧ (∀ z ∈ row, B 2000 z) ∧ ∀ t H', Ex0 H H' → Ti H' t (byX row) → Q (.ref t) H'
def sp_l_by_y (_ : PySem.W.Frag) (_ _ : Addr) : Sp := fun vs H Q _ => ∃ (a : Addr) (row : List Int), vs = [.ref a] ∧ Ti H a row ∧ row ≠ [] ∧ row.length ≤ 10 ∧ (∀ z ∈ row, B 2000 z) ∧ ∀ t H', Ex0 H H' → Ti H' t (byY row) → Q (.ref t) H'
def sp_l_hessian (_ : PySem.W.Frag) (_ _ : Addr) : Sp := fun vs H Q _ => ∃ (t : Addr) (a b c d : Int), vs = [.ref t] ∧ Ti H t [a, b, c, d] ∧ B 400 a ∧ B 400 b ∧ B 400 c ∧ B 400 d ∧ ∀ x H', Ex0 H H' → Ti H' x [h0 a b c d, h1 a b c d, h2 a b c d] → Q (.ref x) H'
theorem byX4 (a b c d : Int) : byX [a, b, c, d] = [3 * a, 2 * b, c] := by
  show [(((4 : Nat) : Int) - 1 - ((0 : Nat) : Int)) * a, (((4 : Nat) : Int) - 1 - ((1 : Nat) : Int)) * b, (((4 : Nat) : Int) - 1 - ((2 : Nat) : Int)) * c] = _
  simp
theorem byX3 (a b c : Int) : byX [a, b, c] = [2 * a, b] := by
  show [(((3 : Nat) : Int) - 1 - ((0 : Nat) : Int)) * a, (((3 : Nat) : Int) - 1 - ((1 : Nat) : Int)) * b] = _
  simp
theorem byY4 (a b c d : Int) : byY [a, b, c, d] = [b, 2 * c, 3 * d] := by
  show [(((0 : Nat) : Int) + 1) * b, (((1 : Nat) : Int) + 1) * c, (((2 : Nat) : Int) + 1) * d] = _
  simp
theorem byY3 (a b c : Int) : byY [a, b, c] = [b, 2 * c] := by
  show [(((0 : Nat) : Int) + 1) * b, (((1 : Nat) : Int) + 1) * c] = _
  simp
theorem all2 {n : Nat} {x y : Int} (h1 : B n x) (h2 : B n y) : ∀ z ∈ [x, y], B n z := fun z h => by
  simp only [List.mem_cons, List.mem_nil_iff, or_false] at h
  rcases h with rfl | rfl <;> assumption
theorem all3 {n : Nat} {x y u : Int} (h1 : B n x) (h2 : B n y) (h3 : B n u) : ∀ z ∈ [x, y, u], B n z := fun z h => by
  simp only [List.mem_cons, List.mem_nil_iff, or_false] at h
  rcases h with rfl | rfl | rfl <;> assumption
theorem all4 {n : Nat} {x y u v : Int} (h1 : B n x) (h2 : B n y) (h3 : B n u) (h4 : B n v) : ∀ z ∈ [x, y, u, v], B n z := fun z h => by
  simp only [List.mem_cons, List.mem_nil_iff, or_false] at h
  rcases h with rfl | rfl | rfl | rfl <;> assumption
theorem hess_law (a b c d : Int) : List.zipWith (fun x y : Int => (x - y) / 4) (prodL [2 * b, 2 * c] [2 * b, 2 * c]) (prodL [2 * (3 * a), 2 * b] [2 * c, 2 * (3 * d)]) = [h0 a b c d, h1 a b c d, h2 a b c d] := by
  rw [pl2, pl2]
  have e0 : 2 * b * (2 * b) - 2 * (3 * a) * (2 * c) = 4 * h0 a b c d := by unfold h0; grind
  have e1 : 2 * b * (2 * c) + 2 * c * (2 * b) - (2 * (3 * a) * (2 * (3 * d)) + 2 * b * (2 * c)) = 4 * h1 a b c d := by unfold h1; grind
  have e2 : 2 * c * (2 * c) - 2 * b * (2 * (3 * d)) = 4 * h2 a b c d := by unfold h2; grind
  show [(_ - _) / 4, (_ - _) / 4, (_ - _) / 4] = _
  rw [e0, e1, e2, Int.mul_ediv_cancel_left _ (by decide), Int.mul_ediv_cancel_left _ (by decide), Int.mul_ediv_cancel_left _ (by decide)]
theorem cov_law (a b c d : Int) : List.zipWith (fun x y : Int => x - y) (prodL [b, 2 * c, 3 * d] [2 * h0 a b c d, h1 a b c d]) (prodL [3 * a, 2 * b, c] [h1 a b c d, 2 * h2 a b c d]) = [g0 a b c d, g1 a b c d, g2 a b c d, g3 a b c d] := by
  rw [pl3, pl3]
  show [_ - _, _ - _, _ - _, _ - _] = _
  unfold g0 g1 g2 g3 h0 h1 h2
  simp only [List.cons.injEq, and_true]
  refine ⟨?_, ?_, ?_, ?_⟩ <;> grind
section
variable {P : Program} {w : World} {K : PySem.W.Frag} {mg : Str → Option Value} {base : Heap} {C_Form C_Double : Addr}
theorem ok_l_by_x (T : Txt K mg C_Form C_Double) : Def P w K mg base 1 "_law_by_x" ["_law_row"] (sp_l_by_x K C_Form C_Double) := by
  obtain ⟨f_, fd_, g_, F_⟩ := T.d_l_by_x
  refine ⟨f_, fd_, g_, F_.kp, F_.binds (ps := ["_law_row"]) (fun _ _ _ _ _ _ us hl => match us, hl with | [_], _ => rfl), ?_⟩
  refine F_.ok sc_l_by_x (fun vs H Q E h => ?_) (fun cdv A outer s H vs Q E hr h => ?_)
  · first | (obtain ⟨rfl, _⟩ := h; rfl) | (obtain ⟨_, rfl, _⟩ := h; rfl) | (obtain ⟨_, _, rfl, _⟩ := h; rfl) | (obtain ⟨_, _, _, rfl, _⟩ := h; rfl) | (obtain ⟨_, _, _, _, rfl, _⟩ := h; rfl) | (obtain ⟨_, _, _, _, _, rfl, _⟩ := h; rfl) | (obtain ⟨_, _, _, _, _, _, rfl, _⟩ := h; rfl) | (obtain ⟨_, _, _, _, _, _, _, rfl, _⟩ := h; rfl) | (obtain ⟨_, _, _, _, _, _, _, _, rfl, _⟩ := h; rfl) | (obtain ⟨_, _, _, _, _, _, _, _, _, rfl, _⟩ := h; rfl) | (obtain ⟨_, _, _, _, _, _, _, _, _, _, rfl, _⟩ := h; rfl) | (obtain ⟨_, _, _, _, _, _, _, _, _, _, _, rfl, _⟩ := h; rfl) | (obtain ⟨_, _, _, _, _, _, _, _, _, _, _, _, rfl, _⟩ := h; rfl) | (obtain ⟨_, _, _, _, _, _, _, _, _, _, _, _, _, rfl, _⟩ := h; rfl) | (obtain ⟨_, _, _, _, _, _, _, _, _, _, _, _, _, _, rfl, _⟩ := h; rfl) | (obtain ⟨_, _, _, _, _, _, _, _, _, _, _, _, _, _, _, rfl, _⟩ := h; rfl) | (obtain ⟨_, _, _, _, _, _, _, _, _, _, _, _, _, _, _, _, rfl, _⟩ := h; rfl) | (obtain ⟨_, _, _, _, _, _, _, _, _, _, _, _, _, _, _, _, _, rfl, _⟩ := h; rfl) | (obtain ⟨_, _, _, _, _, _, _, _, _, _, _, _, _, _, _, _, _, _, rfl, _⟩ := h; rfl) | (obtain ⟨_, _, _, _, _, _, _, _, _, _, _, _, _, _, _, _, _, _, _, rfl, _⟩ := h; rfl) | (obtain ⟨_, _, _, _, _, _, _, _, _, _, _, _, _, _, _, _, _, _, _, _, rfl, _⟩ := h; rfl) | (obtain ⟨_, _, _, _, _, _, _, _, _, _, _, _, _, _, _, _, _, _, _, _, _, rfl, _⟩ := h; rfl) | (obtain ⟨_, _, _, _, _, _, _, _, _, _, _, _, _, _, _, _, _, _, _, _, _, _, rfl, _⟩ := h; rfl) | (obtain ⟨_, _, _, _, _, _, _, _, _, _, _, _, _, _, _, _, _, _, _, _, _, _, _, rfl, _⟩ := h; rfl)
  · obtain ⟨a, row, rfl, ha, hne, hl, hb, q⟩ := h
    refine ⟨_, (pss_cons (ps_set (i := 1) sc_l_by_x.nd rfl (.inr rfl) (pe_op op_sub (pe_callB call_len_seq (by rfl) T.b_len PySem.boot_len (pa_cons (pv 0) pa_nil)) pe_int))
    (pss_one (ps_ret (pe_callTy call_tuple_of (by rfl) T.b_tuple (by decide +kernel) (pa_cons (pe_lc (own := [("_law_at", 2), ("_law_entry", 3)]) (g := (gTup K 2 (gCons (gName 2) (gCons (gName 3) gNil)))) rfl sc_l_by_x.nd (pi_enumT (by rfl) T.b_enumerate (pa_cons (pe_slice sl_tupA (pv 0) po_none (po_some (pe_un un_neg pe_int))) pa_nil)) (blkOk_by (N := N_l_by_x) (sc := defScope s_l_by_x) (by decide +kernel)) (fun _ _ _ _ _ => (pg_tup (by rfl) (pgs_cons (pg_name (i := 2) sc_l_by_x.nd rfl (.inl rfl)) (pgs_cons (pg_name (i := 3) sc_l_by_x.nd rfl (.inl rfl)) pgs_nil)))) (fun _ _ _ _ _ => pts_nil) (fun _ _ _ _ _ => (pe_op op_mulW (pe_op op_sub (pv 1) (pv 2)) (pv 3)))) pa_nil))))), ?_⟩
    have h0 := List.length_pos_iff.mpr hne
    refine ⟨_, rfl, a, _, rfl, .inr (SqT.of ha), _, _, rfl, rfl, ?_⟩
    rw [List.length_map]
    refine ⟨_, rfl, _, rfl, _, rfl, a, _, rfl, SqT.of ha, fun z => absurd z (last_not hne), fun _ p np => ?_⟩
    rw [cut_last hne]
    have e0 : Ex0 H (upd H p (.tup ((row.take (row.length - 1)).map V.int))) := Ex0.new np
    refine ⟨p, _, rfl, SqT.of upd_same, ?_⟩
    refine lcP walk_enumT fm0 trivial (fun H' e => SqT.of (Ex0.ap e upd_same)) (fun i acc _ => acc = ((List.range i).map fun (k : Nat) => ((row.length : Int) - 1 - (k : Int)) * row.getD k 0).map V.int) (fun _ _ => rfl) (fun D i T x y acc H' hD hi fx fy e hA hlen hp hT => ?_) (fun D H' acc hD e hA hp => ?_)
    · obtain rfl := Option.some.inj fx
      obtain ⟨rfl, hi2⟩ := get_D fy
      have hi3 : i < row.length - 1 := by rw [List.length_take] at hi2; omega
      have e1 : (row.take (row.length - 1)).getD i 0 = row.getD i 0 := by rw [List.getD_eq_getElem?_getD, List.getD_eq_getElem?_getD, List.getElem?_take, if_pos hi3]
      rw [e1]
      refine ⟨T, _, rfl, SqT.of upd_same, rfl, _, _, rfl, _, _, rfl, rfl, ⟨rfl, ?_⟩⟩
      have b1 : B 10 ((row.length : Int) - 1 - (i : Int)) := ⟨by omega, by decide⟩
      refine ⟨_, rfl, _, rfl, _, _, rfl, rfl, _, rfl, _, _, rfl, rfl, mulB b1 (hb _ (gD_mem (by omega))) (by decide), ?_⟩
      refine cs_yes fm0 trivial hD e hA hlen (by omega) (Ex0.new hT) ?_
      rw [hp, List.range_succ, List.map_append, List.map_append]
      rfl
    · rw [List.length_map, List.length_take, Nat.min_eq_left (by omega)] at hp
      subst hp
      refine ⟨D, _, rfl, .inl ⟨SqL.of hA, fun p np => ?_⟩⟩
      exact q p _ ((e0.trans e).trans (Ex0.new np)) upd_same
theorem ok_l_by_y (T : Txt K mg C_Form C_Double) : Def P w K mg base 1 "_law_by_y" ["_law_row"] (sp_l_by_y K C_Form C_Double) := by
  obtain ⟨f_, fd_, g_, F_⟩ := T.d_l_by_y
  refine ⟨f_, fd_, g_, F_.kp, F_.binds (ps := ["_law_row"]) (fun _ _ _ _ _ _ us hl => match us, hl with | [_], _ => rfl), ?_⟩
  refine F_.ok sc_l_by_y (fun vs H Q E h => ?_) (fun cdv A outer s H vs Q E hr h => ?_)
  · first | (obtain ⟨rfl, _⟩ := h; rfl) | (obtain ⟨_, rfl, _⟩ := h; rfl) | (obtain ⟨_, _, rfl, _⟩ := h; rfl) | (obtain ⟨_, _, _, rfl, _⟩ := h; rfl) | (obtain ⟨_, _, _, _, rfl, _⟩ := h; rfl) | (obtain ⟨_, _, _, _, _, rfl, _⟩ := h; rfl) | (obtain ⟨_, _, _, _, _, _, rfl, _⟩ := h; rfl) | (obtain ⟨_, _, _, _, _, _, _, rfl, _⟩ := h; rfl) | (obtain ⟨_, _, _, _, _, _, _, _, rfl, _⟩ := h; rfl) | (obtain ⟨_, _, _, _, _, _, _, _, _, rfl, _⟩ := h; rfl) | (obtain ⟨_, _, _, _, _, _, _, _, _, _, rfl, _⟩ := h; rfl) | (obtain ⟨_, _, _, _, _, _, _, _, _, _, _, rfl, _⟩ := h; rfl) | (obtain ⟨_, _, _, _, _, _, _, _, _, _, _, _, rfl, _⟩ := h; rfl) | (obtain ⟨_, _, _, _, _, _, _, _, _, _, _, _, _, rfl, _⟩ := h; rfl) | (obtain ⟨_, _, _, _, _, _, _, _, _, _, _, _, _, _, rfl, _⟩ := h; rfl) | (obtain ⟨_, _, _, _, _, _, _, _, _, _, _, _, _, _, _, rfl, _⟩ := h; rfl) | (obtain ⟨_, _, _, _, _, _, _, _, _, _, _, _, _, _, _, _, rfl, _⟩ := h; rfl) | (obtain ⟨_, _, _, _, _, _, _, _, _, _, _, _, _, _, _, _, _, rfl, _⟩ := h; rfl) | (obtain ⟨_, _, _, _, _, _, _, _, _, _, _, _, _, _, _, _, _, _, rfl, _⟩ := h; rfl) | (obtain ⟨_, _, _, _, _, _, _, _, _, _, _, _, _, _, _, _, _, _, _, rfl, _⟩ := h; rfl) | (obtain ⟨_, _, _, _, _, _, _, _, _, _, _, _, _, _, _, _, _, _, _, _, rfl, _⟩ := h; rfl) | (obtain ⟨_, _, _, _, _, _, _, _, _, _, _, _, _, _, _, _, _, _, _, _, _, rfl, _⟩ := h; rfl) | (obtain ⟨_, _, _, _, _, _, _, _, _, _, _, _, _, _, _, _, _, _, _, _, _, _, rfl, _⟩ := h; rfl) | (obtain ⟨_, _, _, _, _, _, _, _, _, _, _, _, _, _, _, _, _, _, _, _, _, _, _, rfl, _⟩ := h; rfl)
  · obtain ⟨a, row, rfl, ha, hne, hl, hb, q⟩ := h
    refine ⟨_, (pss_one (ps_ret (pe_callTy call_tuple_of (by rfl) T.b_tuple (by decide +kernel) (pa_cons (pe_lc (own := [("_law_at", 1), ("_law_entry", 2)]) (g := (gTup K 2 (gCons (gName 1) (gCons (gName 2) gNil)))) rfl sc_l_by_y.nd (pi_enumT (by rfl) T.b_enumerate (pa_cons (pe_slice sl_tupA (pv 0) (po_some pe_int) po_none) pa_nil)) (blkOk_by (N := N_l_by_y) (sc := defScope s_l_by_y) (by decide +kernel)) (fun _ _ _ _ _ => (pg_tup (by rfl) (pgs_cons (pg_name (i := 1) sc_l_by_y.nd rfl (.inl rfl)) (pgs_cons (pg_name (i := 2) sc_l_by_y.nd rfl (.inl rfl)) pgs_nil)))) (fun _ _ _ _ _ => pts_nil) (fun _ _ _ _ _ => (pe_op op_mulW (pe_op op_add (pv 1) pe_int) (pv 2)))) pa_nil)))), ?_⟩
    have h0 := List.length_pos_iff.mpr hne
    refine ⟨_, rfl, _, rfl, a, _, rfl, SqT.of ha, fun z => absurd z (first_not hne), fun _ p np => ?_⟩
    rw [cut_first hne]
    have e0 : Ex0 H (upd H p (.tup ((row.drop 1).map V.int))) := Ex0.new np
    refine ⟨p, _, rfl, SqT.of upd_same, ?_⟩
    refine lcP walk_enumT fm0 trivial (fun H' e => SqT.of (Ex0.ap e upd_same)) (fun i acc _ => acc = ((List.range i).map fun (k : Nat) => ((k : Int) + 1) * row.getD (k + 1) 0).map V.int) (fun _ _ => rfl) (fun D i T x y acc H' hD hi fx fy e hA hlen hp hT => ?_) (fun D H' acc hD e hA hp => ?_)
    · obtain rfl := Option.some.inj fx
      obtain ⟨rfl, hi2⟩ := get_D fy
      have hi3 : i + 1 < row.length := by rw [List.length_drop] at hi2; omega
      have e1 : (row.drop 1).getD i 0 = row.getD (i + 1) 0 := by rw [List.getD_eq_getElem?_getD, List.getD_eq_getElem?_getD, List.getElem?_drop, Nat.add_comm]
      rw [e1]
      refine ⟨T, _, rfl, SqT.of upd_same, rfl, _, _, rfl, _, _, rfl, rfl, ⟨rfl, ?_⟩⟩
      have b1 : B 10 ((i : Int) + 1) := ⟨by omega, by decide⟩
      refine ⟨_, rfl, _, _, rfl, rfl, _, rfl, _, _, rfl, rfl, mulB b1 (hb _ (gD_mem hi3)) (by decide), ?_⟩
      refine cs_yes fm0 trivial hD e hA hlen (by omega) (Ex0.new hT) ?_
      rw [hp, List.range_succ, List.map_append, List.map_append]
      rfl
    · rw [List.length_map, List.length_drop] at hp
      subst hp
      refine ⟨D, _, rfl, .inl ⟨SqL.of hA, fun p np => ?_⟩⟩
      exact q p _ ((e0.trans e).trans (Ex0.new np)) upd_same
theorem ok_l_hessian (T : Txt K mg C_Form C_Double) : Def P w K mg base 2 "_law_hessian" ["_law_row"] (sp_l_hessian K C_Form C_Double) := by
  obtain ⟨f_, fd_, g_, F_⟩ := T.d_l_hessian
  obtain ⟨f_l_by_x, fd_l_by_x, g_l_by_x, k_l_by_x, b_l_by_x, G_l_by_x⟩ := (ok_l_by_x (P := P) (w := w) (base := base) T)
  obtain ⟨f_l_by_y, fd_l_by_y, g_l_by_y, k_l_by_y, b_l_by_y, G_l_by_y⟩ := (ok_l_by_y (P := P) (w := w) (base := base) T)
  obtain ⟨f_l_product, fd_l_product, g_l_product, k_l_product, b_l_product, G_l_product⟩ := (ok_l_product (P := P) (w := w) (base := base) T)
  refine ⟨f_, fd_, g_, F_.kp, F_.binds (ps := ["_law_row"]) (fun _ _ _ _ _ _ us hl => match us, hl with | [_], _ => rfl), ?_⟩
  refine F_.ok sc_l_hessian (fun vs H Q E h => ?_) (fun cdv A outer s H vs Q E hr h => ?_)
  · first | (obtain ⟨rfl, _⟩ := h; rfl) | (obtain ⟨_, rfl, _⟩ := h; rfl) | (obtain ⟨_, _, rfl, _⟩ := h; rfl) | (obtain ⟨_, _, _, rfl, _⟩ := h; rfl) | (obtain ⟨_, _, _, _, rfl, _⟩ := h; rfl) | (obtain ⟨_, _, _, _, _, rfl, _⟩ := h; rfl) | (obtain ⟨_, _, _, _, _, _, rfl, _⟩ := h; rfl) | (obtain ⟨_, _, _, _, _, _, _, rfl, _⟩ := h; rfl) | (obtain ⟨_, _, _, _, _, _, _, _, rfl, _⟩ := h; rfl) | (obtain ⟨_, _, _, _, _, _, _, _, _, rfl, _⟩ := h; rfl) | (obtain ⟨_, _, _, _, _, _, _, _, _, _, rfl, _⟩ := h; rfl) | (obtain ⟨_, _, _, _, _, _, _, _, _, _, _, rfl, _⟩ := h; rfl) | (obtain ⟨_, _, _, _, _, _, _, _, _, _, _, _, rfl, _⟩ := h; rfl) | (obtain ⟨_, _, _, _, _, _, _, _, _, _, _, _, _, rfl, _⟩ := h; rfl) | (obtain ⟨_, _, _, _, _, _, _, _, _, _, _, _, _, _, rfl, _⟩ := h; rfl) | (obtain ⟨_, _, _, _, _, _, _, _, _, _, _, _, _, _, _, rfl, _⟩ := h; rfl) | (obtain ⟨_, _, _, _, _, _, _, _, _, _, _, _, _, _, _, _, rfl, _⟩ := h; rfl) | (obtain ⟨_, _, _, _, _, _, _, _, _, _, _, _, _, _, _, _, _, rfl, _⟩ := h; rfl) | (obtain ⟨_, _, _, _, _, _, _, _, _, _, _, _, _, _, _, _, _, _, rfl, _⟩ := h; rfl) | (obtain ⟨_, _, _, _, _, _, _, _, _, _, _, _, _, _, _, _, _, _, _, rfl, _⟩ := h; rfl) | (obtain ⟨_, _, _, _, _, _, _, _, _, _, _, _, _, _, _, _, _, _, _, _, rfl, _⟩ := h; rfl) | (obtain ⟨_, _, _, _, _, _, _, _, _, _, _, _, _, _, _, _, _, _, _, _, _, rfl, _⟩ := h; rfl) | (obtain ⟨_, _, _, _, _, _, _, _, _, _, _, _, _, _, _, _, _, _, _, _, _, _, rfl, _⟩ := h; rfl) | (obtain ⟨_, _, _, _, _, _, _, _, _, _, _, _, _, _, _, _, _, _, _, _, _, _, _, rfl, _⟩ := h; rfl)
  · obtain ⟨t, a, b, c, d, rfl, ht, ba, bb, bc, bd, q⟩ := h
    refine ⟨_, (pss_cons (ps_set (i := 1) sc_l_hessian.nd rfl (.inl rfl) (pe_call G_l_by_y (hr.mono (by decide)) (by rfl) g_l_by_y k_l_by_y b_l_by_y .nil pass0 (pa_cons (pe_call G_l_by_x (hr.mono (by decide)) (by rfl) g_l_by_x k_l_by_x b_l_by_x .nil pass0 (pa_cons (pv 0) pa_nil)) pa_nil)))
    (pss_cons (ps_set (i := 2) sc_l_hessian.nd rfl (.inl rfl) (pe_call G_l_product (hr.mono (by decide)) (by rfl) g_l_product k_l_product b_l_product .nil pass0 (pa_cons (pe_call G_l_by_x (hr.mono (by decide)) (by rfl) g_l_by_x k_l_by_x b_l_by_x .nil pass0 (pa_cons (pe_call G_l_by_x (hr.mono (by decide)) (by rfl) g_l_by_x k_l_by_x b_l_by_x .nil pass0 (pa_cons (pv 0) pa_nil)) pa_nil)) (pa_cons (pe_call G_l_by_y (hr.mono (by decide)) (by rfl) g_l_by_y k_l_by_y b_l_by_y .nil pass0 (pa_cons (pe_call G_l_by_y (hr.mono (by decide)) (by rfl) g_l_by_y k_l_by_y b_l_by_y .nil pass0 (pa_cons (pv 0) pa_nil)) pa_nil)) pa_nil))))
    (pss_one (ps_ret (pe_callTy call_tuple_of (by rfl) T.b_tuple (by decide +kernel) (pa_cons (pe_lc (own := [("_law_one_here", 3), ("_law_other", 4)]) (g := (gTup K 2 (gCons (gName 3) (gCons (gName 4) gNil)))) rfl sc_l_hessian.nd (RZ.pi_zipA (by rfl) T.b_zip (pa_cons (pe_call G_l_product (hr.mono (by decide)) (by rfl) g_l_product k_l_product b_l_product .nil pass0 (pa_cons (pv 1) (pa_cons (pv 1) pa_nil))) (pa_cons (pv 2) pa_nil))) (blkOk_by (N := N_l_hessian) (sc := defScope s_l_hessian) (by decide +kernel)) (fun _ _ _ _ _ => (pg_tup (by rfl) (pgs_cons (pg_name (i := 3) sc_l_hessian.nd rfl (.inl rfl)) (pgs_cons (pg_name (i := 4) sc_l_hessian.nd rfl (.inl rfl)) pgs_nil)))) (fun _ _ _ _ _ => pts_nil) (fun _ _ _ _ _ => (pe_op op_fdivW (pe_op op_sub (pv 3) (pv 4)) pe_int))) pa_nil)))))), ?_⟩
    have b2 : B 64 2 := ⟨by decide, by decide⟩
    have b3 : B 64 3 := ⟨by decide, by decide⟩
    have ra : B 2000 a := ba.mono (by decide)
    have rb : B 2000 b := bb.mono (by decide)
    have rc : B 2000 c := bc.mono (by decide)
    have rd : B 2000 d := bd.mono (by decide)
    have a3 : B 2000 (3 * a) := (B.mul b3 ba).mono (by decide)
    have d3 : B 2000 (3 * d) := (B.mul b3 bd).mono (by decide)
    have bb2 : B 2000 (2 * b) := (B.mul b2 bb).mono (by decide)
    have cc2 : B 2000 (2 * c) := (B.mul b2 bc).mono (by decide)
    have r4 := all4 ra rb rc rd
    refine ⟨_, rfl, t, [a, b, c, d], rfl, ht, by simp, by show 4 ≤ 10; decide, r4, fun t1 H1 e1 h1 => ?_⟩
    rw [byX4] at h1
    refine ⟨t1, [3 * a, 2 * b, c], rfl, h1, by simp, by show 3 ≤ 10; decide, all3 a3 bb2 rc, fun t2 H2 e2 h2 => ?_⟩
    rw [byY3] at h2
    have e12 := e1.trans e2
    refine ⟨_, rfl, t, [a, b, c, d], rfl, Ex0.ti e12 ht, by simp, by show 4 ≤ 10; decide, r4, fun t3 H3 e3 h3 => ?_⟩
    rw [byX4] at h3
    refine ⟨t3, [3 * a, 2 * b, c], rfl, h3, by simp, by show 3 ≤ 10; decide, all3 a3 bb2 rc, fun t4 H4 e4 h4 => ?_⟩
    rw [byX3] at h4
    have e14 := (e12.trans e3).trans e4
    refine ⟨_, rfl, t, [a, b, c, d], rfl, Ex0.ti e14 ht, by simp, by show 4 ≤ 10; decide, r4, fun t5 H5 e5 h5 => ?_⟩
    rw [byY4] at h5
    refine ⟨t5, [b, 2 * c, 3 * d], rfl, h5, by simp, by show 3 ≤ 10; decide, all3 rb cc2 d3, fun t6 H6 e6 h6 => ?_⟩
    rw [byY3] at h6
    have m1 : ∀ z ∈ [2 * b, 2 * c], B 10000 z := all2 (bb2.mono (by decide)) (cc2.mono (by decide))
    have m2 : ∀ z ∈ [2 * (3 * a), 2 * b], B 10000 z := all2 ((B.mul b2 a3).mono (by decide)) (bb2.mono (by decide))
    have m3 : ∀ z ∈ [2 * c, 2 * (3 * d)], B 10000 z := all2 (cc2.mono (by decide)) ((B.mul b2 d3).mono (by decide))
    refine ⟨t4, t6, [2 * (3 * a), 2 * b], [2 * c, 2 * (3 * d)], rfl, Ex0.ti (e5.trans e6) h4, h6, m2, m3, by show 0 < 2; decide, by show 2 ≤ 1000; decide, by show 2 ≤ 1000; decide, fun t7 H7 e7 h7 => ?_⟩
    have e27 := (((e3.trans e4).trans e5).trans e6).trans e7
    have h2' := Ex0.ti e27 h2
    refine ⟨_, rfl, _, rfl, t2, t2, [2 * b, 2 * c], [2 * b, 2 * c], rfl, h2', h2', m1, m1, by show 0 < 2; decide, by show 2 ≤ 1000; decide, by show 2 ≤ 1000; decide, fun t8 H8 e8 h8 => ?_⟩
    have h7' := Ex0.ti e8 h7
    have e18 : Ex0 H H8 := (e12.trans e27).trans e8
    have hl2 : ((prodL [2 * b, 2 * c] [2 * b, 2 * c]).map V.int).length = ((prodL [2 * (3 * a), 2 * b] [2 * c, 2 * (3 * d)]).map V.int).length := by rw [List.length_map, List.length_map, prodL_len, prodL_len]; rfl
    refine ⟨_, rfl, t8, t7, _, _, rfl, .inr ⟨SqT.of h8, SqT.of h7', ?_⟩⟩
    have law := hess_law a b c d
    have n1 : (prodL [2 * b, 2 * c] [2 * b, 2 * c]).length = 3 := by rw [prodL_len]; rfl
    have n2 : (prodL [2 * (3 * a), 2 * b] [2 * c, 2 * (3 * d)]).length = 3 := by rw [prodL_len]; rfl
    generalize prodL [2 * b, 2 * c] [2 * b, 2 * c] = xs at *
    generalize prodL [2 * (3 * a), 2 * b] [2 * c, 2 * (3 * d)] = ys at *
    refine lcP (walk_zipT hl2) fm0 trivial (fun H' e => ⟨SqT.of (Ex0.ti e h8), SqT.of (Ex0.ti e h7')⟩) (fun i acc _ => acc = ((List.zipWith (fun x y : Int => (x - y) / 4) xs ys).take i).map V.int) (fun _ _ => rfl) (fun D i T x y acc H' hD hi fx fy e hA hlen hp hT => ?_) (fun D H' acc hD e hA hp => ?_)
    · obtain ⟨rfl, hi1⟩ := get_D fx
      obtain ⟨rfl, hi2⟩ := get_D fy
      refine ⟨T, _, rfl, SqT.of upd_same, rfl, _, _, rfl, _, _, rfl, rfl, ⟨rfl, ?_⟩⟩
      refine ⟨_, rfl, _, rfl, _, _, rfl, rfl, _, _, rfl, rfl, dw (by decide) (by decide), ?_⟩
      refine cs_yes fm0 trivial hD e hA hlen (by omega) (Ex0.new hT) ?_
      rw [hp, List.take_add_one, List.map_append]
      congr 1
      rw [List.getElem?_zipWith, List.getElem?_eq_getElem hi1, List.getElem?_eq_getElem hi2, List.getD_eq_getElem?_getD, List.getD_eq_getElem?_getD, List.getElem?_eq_getElem hi1, List.getElem?_eq_getElem hi2]
      rfl
    · rw [List.length_map, List.take_of_length_le (by rw [List.length_zipWith]; omega), law] at hp
      subst hp
      refine ⟨D, _, rfl, .inl ⟨SqL.of hA, fun p np => ?_⟩⟩
      exact q p _ ((e18.trans e).trans (Ex0.new np)) upd_same
end
end TF
namespace TF
open PySem PySem.Spec PyProof.Rows L2 Fr
open K05M (fv fl2 fl3 fdisc)
open K06M
open TurnM (Red StepOk mu)
def sp_shift (_ : PySem.W.Frag) (C C_D : Addr) : Sp := fun vs H Q _ => ∃ n : Int, vs = [.int n] ∧ ∀ x H', Ex0 H H' → T4 H' x 1 0 n 1 → Q (.ref x) H'
def Nxt (K : PySem.W.Frag) (H : Hp) (v : V) (a b c : Int) : Prop := (v = .non ∧ Red a b c) ∨ ∃ y i j k m, v = .ref y ∧ Tq K H y i j k m ∧ StepOk a b c i j k m ∧ B 800 i ∧ B 800 j ∧ B 800 k ∧ B 800 m
def sp_double_step (K : PySem.W.Frag) (C C_D : Addr) : Sp := fun vs H Q _ => ∃ (t : Addr) (a b c : Int), vs = [.ref t] ∧ Ti H t [a, b, c] ∧ B 1200 a ∧ B 750 b ∧ B 750 a ∧ 0 < a ∧ ∀ v H', Ex0 H H' → Nxt K H' v a b c → Q v H'
def sp_double_way (K : PySem.W.Frag) (C C_D : Addr) : Sp := fun vs H Q _ => ∃ (t : Addr) (a b c : Int), vs = [.ref t] ∧ Ti H t [a, b, c] ∧ B 470 a ∧ B 470 b ∧ B 470 c ∧ 0 < a ∧ 0 < c ∧ 1 ≤ 4 * a * c - b * b ∧
  ∀ x p q r s H', Ex0 H H' → Tq K H' x p q r s → B 800 p → B 800 q → B 800 r → B 800 s → (p * s - q * r = 1 ∨ p * s - q * r = -1) → Red (dv a b c p q) (dl a b c p q r s) (dv a b c r s) → Q (.ref x) H'
def sp_Form_times (_ : PySem.W.Frag) (C C_D : Addr) : Sp := fun vs H Q _ => ∃ (z : Addr) (ns : List Int) (n : Int), vs = [.ref z, .int n] ∧ FormAt C H z ns ∧ ns.length ≤ 1000 ∧ Short n ∧ (∀ x ∈ ns, B 1000 x) ∧ ∀ x H', Ex0 H H' → FormAt C H' x (ns.map fun x => x * n) → Q (.ref x) H'
def sp_turning (_ : PySem.W.Frag) (C C_D : Addr) : Sp := fun vs H Q _ => ∃ a b : Int, vs = [.int a, .int b] ∧ B 200 a ∧ B 200 b ∧ ∀ x H', Ex0 H H' → Ti H' x [a, b, b - 3 * a, -a] → Q (.ref x) H'
def sp_turning_form (_ : PySem.W.Frag) (C C_D : Addr) : Sp := fun vs H Q _ => ∃ a b : Int, vs = [.int a, .int b] ∧ Short a ∧ Short b ∧ ∀ x H', Ex0 H H' → FormAt C H' x [a, b, b - 3 * a, -a] → Q (.ref x) H'
def sp_is_whole_square (_ : PySem.W.Frag) (C C_D : Addr) : Sp := fun vs H Q _ => ∃ n : Int, vs = [.int n] ∧ B 12000 n ∧ ∀ b : Bool, (b = true ↔ ∃ m : Int, 0 ≤ m ∧ m * m = n) → Q (.bl b) H
def sp_is_turning (_ : PySem.W.Frag) (C C_D : Addr) : Sp := fun vs H Q _ => ∃ (z : Addr) (a b c d : Int), vs = [.ref z] ∧ FormAt C H z [a, b, c, d] ∧ B 230 a ∧ B 230 b ∧ B 230 c ∧ B 230 d ∧ fdisc a b c d ≠ 0 ∧ ∀ H', Ex0 H H' → Q (.bl (decide ((gcdL [h0 a b c d, h1 a b c d, h2 a b c d] : Int) * gcdL [h0 a b c d, h1 a b c d, h2 a b c d] = fdisc a b c d))) H'
theorem sqB {x y : Int} {n m : Nat} (h : x * x ≤ y) (hy : B n y) (hm : n ≤ 2 * m) (m0 : 0 < m) : B m x := by
  refine ⟨?_, m0⟩
  have e : (x.natAbs : Int) * x.natAbs = x * x := Int.natAbs_mul_self
  have h1 : x.natAbs * x.natAbs ≤ y.natAbs := by
    have : ((x.natAbs * x.natAbs : Nat) : Int) ≤ y := by rw [Int.natCast_mul, e]; exact h
    omega
  rcases Nat.lt_or_ge x.natAbs (2 ^ m) with z | z
  · exact z
  · exfalso
    have h2 := Nat.mul_le_mul z z
    rw [← Nat.pow_add] at h2
    have h3 : 2 ^ n ≤ 2 ^ (m + m) := Nat.pow_le_pow_right (by decide) (by omega)
    have := hy.1
    omega
theorem B.le {x y : Int} {n : Nat} (h0 : 0 ≤ x) (h : x ≤ y) (hy : B n y) : B n x := ⟨by have := hy.1; omega, hy.2⟩
theorem way_B {a b c p q r s : Int} (ba : B 470 a) (bb : B 470 b) (bc : B 470 c) (a0 : 0 < a) (c0 : 0 < c) (d : 1 ≤ 4 * a * c - b * b) (A0 : 0 < dv a b c p q) (A1 : dv a b c p q ≤ a) (C0 : 0 < dv a b c r s) (C1 : dv a b c r s ≤ (4 * a * c - b * b) + a * a + c) (hd : p * s - q * r = 1 ∨ p * s - q * r = -1) :
    (B 800 p ∧ B 800 q ∧ B 800 r ∧ B 800 s) ∧ B 470 (dv a b c p q) ∧ B 750 (dl a b c p q r s) ∧ B 960 (dv a b c r s) := by
  have b4 : B 3 4 := ⟨by decide, by decide⟩
  have hA := B.le (Int.le_of_lt A0) A1 ba
  have bM : B 950 ((4 * a * c - b * b) + a * a + c) := (B.plus (B.plus (B.less ((B.mul (B.mul b4 ba) bc).mono (by decide : 3 + 470 + 470 ≤ 944)) ((B.mul bb bb).mono (by decide))) ((B.mul ba ba).mono (by decide))) (bc.mono (by decide))).mono (by decide)
  have hC := B.le (Int.le_of_lt C0) C1 bM
  refine ⟨⟨?_, ?_, ?_, ?_⟩, hA, ?_, hC.mono (by decide)⟩
  · exact sqB (TurnM.p_le d) (B.mul (B.mul b4 bc) hA) (by decide) (by decide)
  · exact sqB (TurnM.q_le d) (B.mul (B.mul b4 ba) hA) (by decide) (by decide)
  · exact sqB (TurnM.p_le d) (B.mul (B.mul b4 bc) hC) (by decide) (by decide)
  · exact sqB (TurnM.q_le d) (B.mul (B.mul b4 ba) hC) (by decide) (by decide)
  · refine sqB (y := 4 * dv a b c p q * dv a b c r s) ?_ (B.mul (B.mul b4 hA) hC) (by decide) (by decide)
    have e := TurnM.disc_led a b c p q r s
    have e1 : (p * s - q * r) * (p * s - q * r) = 1 := by rcases hd with h | h <;> rw [h] <;> rfl
    rw [e1, Int.one_mul] at e
    omega
section
variable {P : Program} {w : World} {K : PySem.W.Frag} {mg : Str → Option Value} {base : Heap} {C_Form C_Double : Addr}
theorem ok_shift (T : Txt K mg C_Form C_Double) : Def P w K mg base 1 "shift" ["times"] (sp_shift K C_Form C_Double) := by
  obtain ⟨f_, fd_, g_, F_⟩ := T.d_shift
  refine ⟨f_, fd_, g_, F_.kp, F_.binds (ps := ["times"]) (fun _ _ _ _ _ _ us hl => match us, hl with | [_], _ => rfl), ?_⟩
  refine F_.ok sc_shift (fun vs H Q E h => ?_) (fun cdv A outer s H vs Q E hr h => ?_)
  · first | (obtain ⟨rfl, _⟩ := h; rfl) | (obtain ⟨_, rfl, _⟩ := h; rfl) | (obtain ⟨_, _, rfl, _⟩ := h; rfl) | (obtain ⟨_, _, _, rfl, _⟩ := h; rfl) | (obtain ⟨_, _, _, _, rfl, _⟩ := h; rfl) | (obtain ⟨_, _, _, _, _, rfl, _⟩ := h; rfl) | (obtain ⟨_, _, _, _, _, _, rfl, _⟩ := h; rfl) | (obtain ⟨_, _, _, _, _, _, _, rfl, _⟩ := h; rfl) | (obtain ⟨_, _, _, _, _, _, _, _, rfl, _⟩ := h; rfl) | (obtain ⟨_, _, _, _, _, _, _, _, _, rfl, _⟩ := h; rfl) | (obtain ⟨_, _, _, _, _, _, _, _, _, _, rfl, _⟩ := h; rfl) | (obtain ⟨_, _, _, _, _, _, _, _, _, _, _, rfl, _⟩ := h; rfl) | (obtain ⟨_, _, _, _, _, _, _, _, _, _, _, _, rfl, _⟩ := h; rfl) | (obtain ⟨_, _, _, _, _, _, _, _, _, _, _, _, _, rfl, _⟩ := h; rfl) | (obtain ⟨_, _, _, _, _, _, _, _, _, _, _, _, _, _, rfl, _⟩ := h; rfl) | (obtain ⟨_, _, _, _, _, _, _, _, _, _, _, _, _, _, _, rfl, _⟩ := h; rfl) | (obtain ⟨_, _, _, _, _, _, _, _, _, _, _, _, _, _, _, _, rfl, _⟩ := h; rfl) | (obtain ⟨_, _, _, _, _, _, _, _, _, _, _, _, _, _, _, _, _, rfl, _⟩ := h; rfl) | (obtain ⟨_, _, _, _, _, _, _, _, _, _, _, _, _, _, _, _, _, _, rfl, _⟩ := h; rfl) | (obtain ⟨_, _, _, _, _, _, _, _, _, _, _, _, _, _, _, _, _, _, _, rfl, _⟩ := h; rfl) | (obtain ⟨_, _, _, _, _, _, _, _, _, _, _, _, _, _, _, _, _, _, _, _, rfl, _⟩ := h; rfl) | (obtain ⟨_, _, _, _, _, _, _, _, _, _, _, _, _, _, _, _, _, _, _, _, _, rfl, _⟩ := h; rfl) | (obtain ⟨_, _, _, _, _, _, _, _, _, _, _, _, _, _, _, _, _, _, _, _, _, _, rfl, _⟩ := h; rfl) | (obtain ⟨_, _, _, _, _, _, _, _, _, _, _, _, _, _, _, _, _, _, _, _, _, _, _, rfl, _⟩ := h; rfl)
  · obtain ⟨n, rfl, q⟩ := h
    refine ⟨_, (pss_one (ps_ret (pe_tup (pa_cons (pe_tup (pa_cons pe_int (pa_cons pe_int pa_nil))) (pa_cons (pe_tup (pa_cons (pv 0) (pa_cons pe_int pa_nil))) pa_nil))))), ?_⟩
    refine ⟨sl2, fun t1 n1 => ⟨_, rfl, sl2, fun t2 n2 => ⟨sl2, fun x nx => ?_⟩⟩⟩
    have z := t4_new n1 n2 nx
    exact q x _ z.1 z.2
theorem ok_double_step (T : Txt K mg C_Form C_Double) : Def P w K mg base 2 "double_step" ["double"] (sp_double_step K C_Form C_Double) := by
  obtain ⟨f_, fd_, g_, F_⟩ := T.d_double_step
  obtain ⟨f_shift, fd_shift, g_shift, k_shift, b_shift, G_shift⟩ := (ok_shift (P := P) (w := w) (base := base) T)
  refine ⟨f_, fd_, g_, F_.kp, F_.binds (ps := ["double"]) (fun _ _ _ _ _ _ us hl => match us, hl with | [_], _ => rfl), ?_⟩
  refine F_.ok sc_double_step (fun vs H Q E h => ?_) (fun cdv A outer s H vs Q E hr h => ?_)
  · first | (obtain ⟨rfl, _⟩ := h; rfl) | (obtain ⟨_, rfl, _⟩ := h; rfl) | (obtain ⟨_, _, rfl, _⟩ := h; rfl) | (obtain ⟨_, _, _, rfl, _⟩ := h; rfl) | (obtain ⟨_, _, _, _, rfl, _⟩ := h; rfl) | (obtain ⟨_, _, _, _, _, rfl, _⟩ := h; rfl) | (obtain ⟨_, _, _, _, _, _, rfl, _⟩ := h; rfl) | (obtain ⟨_, _, _, _, _, _, _, rfl, _⟩ := h; rfl) | (obtain ⟨_, _, _, _, _, _, _, _, rfl, _⟩ := h; rfl) | (obtain ⟨_, _, _, _, _, _, _, _, _, rfl, _⟩ := h; rfl) | (obtain ⟨_, _, _, _, _, _, _, _, _, _, rfl, _⟩ := h; rfl) | (obtain ⟨_, _, _, _, _, _, _, _, _, _, _, rfl, _⟩ := h; rfl) | (obtain ⟨_, _, _, _, _, _, _, _, _, _, _, _, rfl, _⟩ := h; rfl) | (obtain ⟨_, _, _, _, _, _, _, _, _, _, _, _, _, rfl, _⟩ := h; rfl) | (obtain ⟨_, _, _, _, _, _, _, _, _, _, _, _, _, _, rfl, _⟩ := h; rfl) | (obtain ⟨_, _, _, _, _, _, _, _, _, _, _, _, _, _, _, rfl, _⟩ := h; rfl) | (obtain ⟨_, _, _, _, _, _, _, _, _, _, _, _, _, _, _, _, rfl, _⟩ := h; rfl) | (obtain ⟨_, _, _, _, _, _, _, _, _, _, _, _, _, _, _, _, _, rfl, _⟩ := h; rfl) | (obtain ⟨_, _, _, _, _, _, _, _, _, _, _, _, _, _, _, _, _, _, rfl, _⟩ := h; rfl) | (obtain ⟨_, _, _, _, _, _, _, _, _, _, _, _, _, _, _, _, _, _, _, rfl, _⟩ := h; rfl) | (obtain ⟨_, _, _, _, _, _, _, _, _, _, _, _, _, _, _, _, _, _, _, _, rfl, _⟩ := h; rfl) | (obtain ⟨_, _, _, _, _, _, _, _, _, _, _, _, _, _, _, _, _, _, _, _, _, rfl, _⟩ := h; rfl) | (obtain ⟨_, _, _, _, _, _, _, _, _, _, _, _, _, _, _, _, _, _, _, _, _, _, rfl, _⟩ := h; rfl) | (obtain ⟨_, _, _, _, _, _, _, _, _, _, _, _, _, _, _, _, _, _, _, _, _, _, _, rfl, _⟩ := h; rfl)
  · obtain ⟨t, a, b, c, rfl, ht, ba, bb, ba7, a0, q⟩ := h
    obtain ⟨A_EXCHANGE, h_EXCHANGE, i_EXCHANGE⟩ := T.k_EXCHANGE
    obtain ⟨A_SECOND_BACK, h_SECOND_BACK, i_SECOND_BACK⟩ := T.k_SECOND_BACK
    refine ⟨_, (pss_cons (ps_asg (pv 0) (pg_tup (by rfl) (pgs_cons (pg_name (i := 1) sc_double_step.nd rfl (.inl rfl)) (pgs_cons (pg_name (i := 2) sc_double_step.nd rfl (.inl rfl)) (pgs_cons (pg_name (i := 3) sc_double_step.nd rfl (.inl rfl)) pgs_nil)))))
    (pss_cons (ps_set (i := 4) sc_double_step.nd rfl (.inl rfl) (pe_op op_fdivW (pe_op op_sub (pv 1) (pv 2)) (pe_op op_mulW pe_int (pv 1))))
    (pss_cons (ps_if (pt_cmpR op_ne (pv 4) pe_int (nomark _))
      (pss_one (ps_ret (pe_call G_shift (hr.mono (by decide)) (by rfl) g_shift k_shift b_shift .nil pass0 (pa_cons (pv 4) pa_nil))))
      pss_nil)
    (pss_cons (ps_if (pt_cmpR op_gt (pv 1) (pv 3) (nomark _))
      (pss_one (ps_ret (pe_glob (v := .ref A_EXCHANGE) (by rfl) h_EXCHANGE rfl)))
      pss_nil)
    (pss_one (ps_ret (pe_ifExp (pt_cmpR op_lt (pv 2) pe_int (nomark _)) (pe_glob (v := .ref A_SECOND_BACK) (by rfl) h_SECOND_BACK rfl) pe_non))))))), ?_⟩
    have b2 : B 2 2 := ⟨by decide, by decide⟩
    have b2a : B 1202 (2 * a) := B.mul b2 ba
    have b800 : ∀ x : Int, x.natAbs ≤ 1 → B 800 x := fun x h => ⟨Nat.lt_of_le_of_lt h (by decide), by decide⟩
    refine ⟨_, rfl, unI3 ht ?_⟩
    refine ⟨_, rfl, _, rfl, _, _, rfl, rfl, _, rfl, _, _, rfl, rfl, mulB b2 ba (by decide), _, _, rfl, rfl, ⟨by omega, Nat.lt_of_lt_of_le (log_lt b2a.1 b2a.2) (by decide)⟩, ?_⟩
    refine ⟨_, rfl, rfl, _, rfl, iteEn (fun h => ?_) (fun h => ?_)⟩
    · refine ⟨_, rfl, _, rfl, fun x H' e h4 => q _ H' e (.inr ⟨x, _, _, _, _, rfl, h4.q, .inl ⟨rfl, rfl, rfl, fun z => h ((TurnM.quot0 a0).mpr z), (TurnM.shift_in a0 rfl).1, (TurnM.shift_in a0 rfl).2⟩, b800 1 (by decide), b800 0 (by decide), ?_, b800 1 (by decide)⟩)⟩
      have hn : ((a - b) / (2 * a)).natAbs ≤ (a - b).natAbs := by
        first | exact Int.natAbs_ediv_le_natAbs _ _ | exact Int.natAbs_div_le_natAbs _ _
      have := (B.less (ba7.mono (by decide : 750 ≤ 751)) (bb.mono (by decide : 750 ≤ 751)))
      exact ⟨Nat.lt_of_le_of_lt hn (Nat.lt_of_lt_of_le this.1 (Nat.pow_le_pow_right (by decide) (by decide))), by decide⟩
    · have h0 := (TurnM.quot0 a0).mp h
      refine ⟨_, rfl, _, rfl, _, _, rfl, rfl, _, rfl, iteD (fun h1 => ?_) (fun h1 => ?_)⟩
      · exact q _ _ (Ex0.refl H) (.inr ⟨_, _, _, _, _, rfl, i_EXCHANGE H, .inr (.inl ⟨rfl, rfl, rfl, rfl, h0.1, h0.2, by omega⟩), b800 0 (by decide), b800 1 (by decide), b800 1 (by decide), b800 0 (by decide)⟩)
      · refine ⟨_, rfl, _, _, rfl, rfl, _, rfl, iteD (fun h2 => ?_) (fun h2 => ?_)⟩
        · exact q _ _ (Ex0.refl H) (.inr ⟨_, _, _, _, _, rfl, i_SECOND_BACK H, .inr (.inr ⟨rfl, rfl, rfl, rfl, h0.1, h0.2, by omega, by omega⟩), b800 1 (by decide), b800 0 (by decide), b800 0 (by decide), b800 (-1) (by decide)⟩)
        · exact q _ _ (Ex0.refl H) (.inl ⟨rfl, a0, by omega, h0.2, by omega⟩)
theorem ok_double_way (T : Txt K mg C_Form C_Double) : Def P w K mg base 3 "double_way" ["double"] (sp_double_way K C_Form C_Double) := by
  obtain ⟨f_, fd_, g_, F_⟩ := T.d_double_way
  obtain ⟨f_both, fd_both, g_both, k_both, b_both, G_both⟩ := (ok_both (P := P) (w := w) (base := base) T)
  obtain ⟨f_double_led, fd_double_led, g_double_led, k_double_led, b_double_led, G_double_led⟩ := (ok_double_led (P := P) (w := w) (base := base) T)
  obtain ⟨f_double_step, fd_double_step, g_double_step, k_double_step, b_double_step, G_double_step⟩ := (ok_double_step (P := P) (w := w) (base := base) T)
  refine ⟨f_, fd_, g_, F_.kp, F_.binds (ps := ["double"]) (fun _ _ _ _ _ _ us hl => match us, hl with | [_], _ => rfl), ?_⟩
  refine F_.ok sc_double_way (fun vs H Q E h => ?_) (fun cdv A outer s H vs Q E hr h => ?_)
  · first | (obtain ⟨rfl, _⟩ := h; rfl) | (obtain ⟨_, rfl, _⟩ := h; rfl) | (obtain ⟨_, _, rfl, _⟩ := h; rfl) | (obtain ⟨_, _, _, rfl, _⟩ := h; rfl) | (obtain ⟨_, _, _, _, rfl, _⟩ := h; rfl) | (obtain ⟨_, _, _, _, _, rfl, _⟩ := h; rfl) | (obtain ⟨_, _, _, _, _, _, rfl, _⟩ := h; rfl) | (obtain ⟨_, _, _, _, _, _, _, rfl, _⟩ := h; rfl) | (obtain ⟨_, _, _, _, _, _, _, _, rfl, _⟩ := h; rfl) | (obtain ⟨_, _, _, _, _, _, _, _, _, rfl, _⟩ := h; rfl) | (obtain ⟨_, _, _, _, _, _, _, _, _, _, rfl, _⟩ := h; rfl) | (obtain ⟨_, _, _, _, _, _, _, _, _, _, _, rfl, _⟩ := h; rfl) | (obtain ⟨_, _, _, _, _, _, _, _, _, _, _, _, rfl, _⟩ := h; rfl) | (obtain ⟨_, _, _, _, _, _, _, _, _, _, _, _, _, rfl, _⟩ := h; rfl) | (obtain ⟨_, _, _, _, _, _, _, _, _, _, _, _, _, _, rfl, _⟩ := h; rfl) | (obtain ⟨_, _, _, _, _, _, _, _, _, _, _, _, _, _, _, rfl, _⟩ := h; rfl) | (obtain ⟨_, _, _, _, _, _, _, _, _, _, _, _, _, _, _, _, rfl, _⟩ := h; rfl) | (obtain ⟨_, _, _, _, _, _, _, _, _, _, _, _, _, _, _, _, _, rfl, _⟩ := h; rfl) | (obtain ⟨_, _, _, _, _, _, _, _, _, _, _, _, _, _, _, _, _, _, rfl, _⟩ := h; rfl) | (obtain ⟨_, _, _, _, _, _, _, _, _, _, _, _, _, _, _, _, _, _, _, rfl, _⟩ := h; rfl) | (obtain ⟨_, _, _, _, _, _, _, _, _, _, _, _, _, _, _, _, _, _, _, _, rfl, _⟩ := h; rfl) | (obtain ⟨_, _, _, _, _, _, _, _, _, _, _, _, _, _, _, _, _, _, _, _, _, rfl, _⟩ := h; rfl) | (obtain ⟨_, _, _, _, _, _, _, _, _, _, _, _, _, _, _, _, _, _, _, _, _, _, rfl, _⟩ := h; rfl) | (obtain ⟨_, _, _, _, _, _, _, _, _, _, _, _, _, _, _, _, _, _, _, _, _, _, _, rfl, _⟩ := h; rfl)
  · obtain ⟨t, a, b, c, rfl, ht, ba, bb, bc, a0, c0, d0, q⟩ := h
    obtain ⟨A_IDLE, h_IDLE, i_IDLE⟩ := T.k_IDLE
    refine ⟨_, (pss_cons (ps_par (i := 1) (j := 2) (by rfl) sc_double_way.nd rfl rfl (by decide) rfl rfl (pa_cons (pe_glob (v := .ref A_IDLE) (by rfl) h_IDLE rfl) (pa_cons (pv 0) pa_nil)) (by rfl))
    (Evl.pss_cut (ps_set (i := 3) sc_double_way.nd rfl (.inl rfl) (pe_call G_double_step (hr.mono (by decide)) (by rfl) g_double_step k_double_step b_double_step .nil pass0 (pa_cons (pv 2) pa_nil)))
    (Evl.pss_cut (ps_while PassesOwn.never (pt_cmpR op_notN (pv 3) pe_non (nomark _))
      (pss_cons (ps_par (i := 1) (j := 2) (by rfl) sc_double_way.nd rfl rfl (by decide) rfl rfl (pa_cons (pe_call G_both (hr.mono (by decide)) (by rfl) g_both k_both b_both .nil pass0 (pa_cons (pv 1) (pa_cons (pv 3) pa_nil))) (pa_cons (pe_call G_double_led (hr.mono (by decide)) (by rfl) g_double_led k_double_led b_double_led .nil pass0 (pa_cons (pv 2) (pa_cons (pv 3) pa_nil))) pa_nil)) (by rfl))
    (pss_one (ps_set (i := 3) sc_double_way.nd rfl (.inl rfl) (pe_call G_double_step (hr.mono (by decide)) (by rfl) g_double_step k_double_step b_double_step .nil pass0 (pa_cons (pv 2) pa_nil))))))
    (pss_one (ps_ret (pv 1)))))), ?_⟩
    have one : dv a b c 1 0 = a ∧ dl a b c 1 0 0 1 = b ∧ dv a b c 0 1 = c := by unfold dv K06M.dl; refine ⟨?_, ?_, ?_⟩ <;> grind
    have aa : 0 < a * a := Int.mul_pos a0 a0
    refine ⟨_, rfl, _, _, rfl, ?_⟩
    refine ⟨fun σ H' => ∃ (x l : Addr) (v : V) (p q' r s' : Int), σ = [some (.ref t), some (.ref x), some (.ref l), some v] ∧ Ex0 H H' ∧ Tq K H' x p q' r s' ∧ Ti H' l [dv a b c p q', dl a b c p q' r s', dv a b c r s'] ∧ Nxt K H' v (dv a b c p q') (dl a b c p q' r s') (dv a b c r s') ∧
      0 < dv a b c p q' ∧ dv a b c p q' ≤ a ∧ 0 < dv a b c r s' ∧ dv a b c r s' ≤ (4 * a * c - b * b) + a * a + c ∧ (p * s' - q' * r = 1 ∨ p * s' - q' * r = -1), ?_, ?_⟩
    · refine ⟨_, rfl, t, a, b, c, rfl, ht, ba.mono (by decide), bb.mono (by decide), ba.mono (by decide), a0, fun v H' e hv => ?_⟩
      refine ⟨A_IDLE, t, v, 1, 0, 0, 1, rfl, e, i_IDLE H', ?_, ?_, ?_, ?_, ?_, ?_, .inl (by decide)⟩
      · rw [one.1, one.2.1, one.2.2]; exact Ex0.ti e ht
      · rw [one.1, one.2.1, one.2.2]; exact hv
      · rw [one.1]; exact a0
      · rw [one.1]; exact Int.le_refl _
      · rw [one.2.2]; exact c0
      · rw [one.2.2]; omega
    rintro σ H1 ⟨x, l, v, p, q', r, s', rfl, e1, hx, hl, hv, A0, A1, C0, C1, hdet⟩
    refine ⟨fun σ H' => ∃ (x l : Addr) (v : V) (p q' r s' : Int), σ = [some (.ref t), some (.ref x), some (.ref l), some v] ∧ Ex0 H H' ∧ Tq K H' x p q' r s' ∧ Red (dv a b c p q') (dl a b c p q' r s') (dv a b c r s') ∧
      (B 800 p ∧ B 800 q' ∧ B 800 r ∧ B 800 s') ∧ (p * s' - q' * r = 1 ∨ p * s' - q' * r = -1), ?_, ?_⟩
    · refine ⟨fun m σ H' => ∃ (x l : Addr) (v : V) (p q' r s' : Int), σ = [some (.ref t), some (.ref x), some (.ref l), some v] ∧ (Ex0 H H' ∧ Tq K H' x p q' r s' ∧ Ti H' l [dv a b c p q', dl a b c p q' r s', dv a b c r s'] ∧ Nxt K H' v (dv a b c p q') (dl a b c p q' r s') (dv a b c r s') ∧
        0 < dv a b c p q' ∧ dv a b c p q' ≤ a ∧ 0 < dv a b c r s' ∧ dv a b c r s' ≤ (4 * a * c - b * b) + a * a + c ∧ (p * s' - q' * r = 1 ∨ p * s' - q' * r = -1)) ∧ m = mu (dv a b c p q') (dl a b c p q' r s'), ⟨_, x, l, v, p, q', r, s', rfl, ⟨e1, hx, hl, hv, A0, A1, C0, C1, hdet⟩, rfl⟩, ?_⟩
      clear e1 hx hl hv A0 A1 C0 C1 hdet x l v p q' r s' H1
      rintro m σ H1 ⟨x, l, v, p, q', r, s', rfl, ⟨e1, hx, hl, hv, A0, A1, C0, C1, hdet⟩, rfl⟩
      obtain ⟨⟨bp, bq, br, bs⟩, bA, bB, bC⟩ := way_B ba bb bc a0 c0 d0 A0 A1 C0 C1 hdet
      refine ⟨_, rfl, rfl, _, rfl, ?_⟩
      rcases hv with ⟨rfl, red⟩ | ⟨y, i, j, k, m, rfl, hy, ok, bi, bj, bk, bm⟩
      · exact ndF rfl ⟨x, l, _, p, q', r, s', rfl, e1, hx, red, ⟨bp, bq, br, bs⟩, hdet⟩
      · refine ndT (fun z => by cases z) ?_
        obtain ⟨n1, n2, n3, n4, n5⟩ := TurnM.step_dec ok A0 C0
        refine ⟨fun σ H' => ∃ (x l : Addr) (v : V) (p' q'' r' s'' : Int), σ = [some (.ref t), some (.ref x), some (.ref l), some v] ∧ (Ex0 H H' ∧ Tq K H' x p' q'' r' s'' ∧ Ti H' l [dv a b c p' q'', dl a b c p' q'' r' s'', dv a b c r' s''] ∧ Nxt K H' v (dv a b c p' q'') (dl a b c p' q'' r' s'') (dv a b c r' s'') ∧
          0 < dv a b c p' q'' ∧ dv a b c p' q'' ≤ a ∧ 0 < dv a b c r' s'' ∧ dv a b c r' s'' ≤ (4 * a * c - b * b) + a * a + c ∧ (p' * s'' - q'' * r' = 1 ∨ p' * s'' - q'' * r' = -1)) ∧ mu (dv a b c p' q'') (dl a b c p' q'' r' s'') < mu (dv a b c p q') (dl a b c p q' r s'), fun σ H' ⟨x, l, v, p, q', r, s', z1, z2, z3⟩ => ⟨_, z3, x, l, v, p, q', r, s', z1, z2, rfl⟩, ?_⟩
        refine ⟨_, rfl, _, rfl, x, y, p, q', r, s', i, j, k, m, rfl, hx, hy, ⟨bp, bq, br, bs⟩, ⟨bi, bj, bk, bm⟩, fun x2 H2 e2 h2 => ?_⟩
        refine ⟨_, rfl, _, rfl, l, y, _, _, _, i, j, k, m, rfl, Ex0.ti e2 hl, Ex0.q e2 hy, bA.mono (by decide), bB.mono (by decide), bC.mono (by decide), bi, bj, bk, bm, fun l2 H3 e3 hl2 => ?_⟩
        refine ⟨_, _, rfl, ?_⟩
        rw [dput1, dput2, dput1] at hl2
        rw [dput1] at n1 n2
        rw [dput1, dput2] at n3
        have hdet2 : (i * p + j * r) * (k * q' + m * s') - (i * q' + j * s') * (k * p + m * r) = 1 ∨ (i * p + j * r) * (k * q' + m * s') - (i * q' + j * s') * (k * p + m * r) = -1 := by
          rw [K05M.det_mul]
          rcases hdet with h | h <;> rcases n4 with g | g <;> rw [h, g] <;> decide
        have dd : ∀ u v w z : Int, (u * z - v * w = 1 ∨ u * z - v * w = -1) → 4 * dv a b c u v * dv a b c w z - dl a b c u v w z * dl a b c u v w z = 4 * a * c - b * b := fun u v w z hh => by
          rw [TurnM.disc_led]
          have e1 : (u * z - v * w) * (u * z - v * w) = 1 := by rcases hh with h | h <;> rw [h] <;> rfl
          rw [e1, Int.one_mul]
        have d2 := dd _ _ _ _ hdet2
        have cp : 0 < dv a b c (k * p + m * r) (k * q' + m * s') := by
          rcases Int.lt_or_le 0 (dv a b c (k * p + m * r) (k * q' + m * s')) with z | z
          · exact z
          · exfalso
            have h1 := TurnM.sqn (dl a b c (i * p + j * r) (i * q' + j * s') (k * p + m * r) (k * q' + m * s'))
            have h2 := Int.mul_nonneg (Int.le_of_lt n1) (show 0 ≤ -dv a b c (k * p + m * r) (k * q' + m * s') by omega)
            grind
        have cb : dv a b c (k * p + m * r) (k * q' + m * s') ≤ (4 * a * c - b * b) + a * a + c := by
          rw [dput1, dput1, dput2] at n5
          rcases n5 with h | h | ⟨h, g⟩
          · rw [h]; exact C1
          · rw [h]
            have : a ≤ a * a := by
              have := Int.mul_le_mul_of_nonneg_left (show 1 ≤ a by omega) (show 0 ≤ a by omega)
              rwa [Int.mul_one] at this
            omega
          · have g2 : dv a b c p q' * dv a b c p q' ≤ a * a := Int.mul_le_mul A1 A1 (by omega) (by omega)
            have g3 : dv a b c (k * p + m * r) (k * q' + m * s') ≤ 4 * dv a b c (i * p + j * r) (i * q' + j * s') * dv a b c (k * p + m * r) (k * q' + m * s') := by
              have : 1 * dv a b c (k * p + m * r) (k * q' + m * s') ≤ (4 * dv a b c (i * p + j * r) (i * q' + j * s')) * dv a b c (k * p + m * r) (k * q' + m * s') := Int.mul_le_mul_of_nonneg_right (by omega) (by omega)
              rwa [Int.one_mul] at this
            omega
        obtain ⟨_, bA2, bB2, bC2⟩ := way_B ba bb bc a0 c0 d0 n1 (Int.le_trans n2 A1) cp cb hdet2
        refine ⟨_, rfl, l2, _, _, _, rfl, hl2, bA2.mono (by decide), bB2, bA2.mono (by decide), n1, fun v H4 e4 hv => ?_⟩
        exact ⟨x2, l2, v, _, _, _, _, rfl, ⟨((e1.trans e2).trans e3).trans e4, (Ex0.q4 (e3.trans e4) h2).q, Ex0.ti e4 hl2, hv, n1, Int.le_trans n2 A1, cp, cb, hdet2⟩, n3⟩
    rintro σ H2 ⟨x, l, v, p, q', r, s', rfl, e2, hx, red, ⟨bp, bq, br, bs⟩, hdet⟩
    exact ⟨_, rfl, q x p q' r s' H2 e2 hx bp bq br bs hdet red⟩
theorem ok_Form_times (T : Txt K mg C_Form C_Double) : MDef (fun p f => Meth K C_Form "times" f) P w K mg base 7 ["self", "number"] (sp_Form_times K C_Form C_Double) := by
  obtain ⟨p_, f_, fd_, R_, F_⟩ := T.e_Form_times
  obtain ⟨f_check_integer, fd_check_integer, g_check_integer, k_check_integer, b_check_integer, G_check_integer⟩ := (ok_check_integer (P := P) (w := w) (base := base) T)
  obtain ⟨f_form_of, fd_form_of, g_form_of, k_form_of, b_form_of, G_form_of⟩ := (ok_form_of (P := P) (w := w) (base := base) T)
  refine ⟨p_, f_, fd_, R_, F_.binds (ps := ["self", "number"]) (fun _ _ _ _ _ _ us hl => match us, hl with | [_, _], _ => rfl), ?_⟩
  refine F_.ok sc_Form_times (fun vs H Q E h => ?_) (fun cdv A outer s H vs Q E hr h => ?_)
  · first | (obtain ⟨rfl, _⟩ := h; rfl) | (obtain ⟨_, rfl, _⟩ := h; rfl) | (obtain ⟨_, _, rfl, _⟩ := h; rfl) | (obtain ⟨_, _, _, rfl, _⟩ := h; rfl) | (obtain ⟨_, _, _, _, rfl, _⟩ := h; rfl) | (obtain ⟨_, _, _, _, _, rfl, _⟩ := h; rfl) | (obtain ⟨_, _, _, _, _, _, rfl, _⟩ := h; rfl) | (obtain ⟨_, _, _, _, _, _, _, rfl, _⟩ := h; rfl) | (obtain ⟨_, _, _, _, _, _, _, _, rfl, _⟩ := h; rfl) | (obtain ⟨_, _, _, _, _, _, _, _, _, rfl, _⟩ := h; rfl) | (obtain ⟨_, _, _, _, _, _, _, _, _, _, rfl, _⟩ := h; rfl) | (obtain ⟨_, _, _, _, _, _, _, _, _, _, _, rfl, _⟩ := h; rfl) | (obtain ⟨_, _, _, _, _, _, _, _, _, _, _, _, rfl, _⟩ := h; rfl) | (obtain ⟨_, _, _, _, _, _, _, _, _, _, _, _, _, rfl, _⟩ := h; rfl) | (obtain ⟨_, _, _, _, _, _, _, _, _, _, _, _, _, _, rfl, _⟩ := h; rfl) | (obtain ⟨_, _, _, _, _, _, _, _, _, _, _, _, _, _, _, rfl, _⟩ := h; rfl) | (obtain ⟨_, _, _, _, _, _, _, _, _, _, _, _, _, _, _, _, rfl, _⟩ := h; rfl) | (obtain ⟨_, _, _, _, _, _, _, _, _, _, _, _, _, _, _, _, _, rfl, _⟩ := h; rfl) | (obtain ⟨_, _, _, _, _, _, _, _, _, _, _, _, _, _, _, _, _, _, rfl, _⟩ := h; rfl) | (obtain ⟨_, _, _, _, _, _, _, _, _, _, _, _, _, _, _, _, _, _, _, rfl, _⟩ := h; rfl) | (obtain ⟨_, _, _, _, _, _, _, _, _, _, _, _, _, _, _, _, _, _, _, _, rfl, _⟩ := h; rfl) | (obtain ⟨_, _, _, _, _, _, _, _, _, _, _, _, _, _, _, _, _, _, _, _, _, rfl, _⟩ := h; rfl) | (obtain ⟨_, _, _, _, _, _, _, _, _, _, _, _, _, _, _, _, _, _, _, _, _, _, rfl, _⟩ := h; rfl) | (obtain ⟨_, _, _, _, _, _, _, _, _, _, _, _, _, _, _, _, _, _, _, _, _, _, _, rfl, _⟩ := h; rfl)
  · obtain ⟨z, ns, n, rfl, hz, hl, sn, hb, q⟩ := h
    obtain ⟨dx, t, hx, ht⟩ := id hz
    refine ⟨_, (pss_cons (ps_expr (pe_call G_check_integer (hr.mono (by decide)) (by rfl) g_check_integer k_check_integer b_check_integer .nil pass0 (pa_cons (pv 1) pa_nil)))
    (pss_one (ps_ret (pe_call G_form_of (hr.mono (by decide)) (by rfl) g_form_of k_form_of b_form_of .nil pass0 (pa_cons (pe_callTy call_tuple_of (by rfl) T.b_tuple (by decide +kernel) (pa_cons (pe_lc (own := [("coefficient", 2)]) (g := (gName 2)) rfl sc_Form_times.nd (pi_tup (pe_fld (pv 0) (by rfl))) (blkOk_by (N := N_Form_times) (sc := defScope s_Form_times) (by decide +kernel)) (fun _ _ _ _ _ => (pg_name (i := 2) sc_Form_times.nd rfl (.inl rfl))) (fun _ _ _ _ _ => pts_nil) (fun _ _ _ _ _ => (pe_op op_mulW (pv 2) (pv 1)))) pa_nil)) pa_nil))))), ?_⟩
    refine ⟨_, rfl, n, rfl, sn, ?_⟩
    refine ⟨_, rfl, z, C_Form, dx, _, .ref t, rfl, hx, T.cl_Form, T.na_Form_coefficients, lk_same, t, rfl, ⟨_, SqT.of ht⟩, ?_⟩
    refine lcT fm0 trivial (SqT.of ht) (fun z => z) (fun i acc _ => acc = ((ns.take i).map fun x => x * n).map V.int) (fun _ _ => rfl) (fun D i x acc H' hD hx' e hA hlen hp => ?_) (fun D H' acc hD e hA hp => ?_)
    · obtain ⟨m, hm, rfl⟩ := get_int hx'
      have hi := (List.getElem?_eq_some_iff.mp hm).1
      refine ⟨rfl, ?_⟩
      refine ⟨_, rfl, _, rfl, _, _, rfl, rfl, mulB (hb _ (List.mem_of_getElem? hm)) sn.b (by decide), ?_⟩
      refine cs_yes fm0 trivial hD e hA hlen (by omega) (Fx.refl trivial) ?_
      rw [hp, List.take_add_one, hm, List.map_append, List.map_append]
      rfl
    · rw [List.length_map, List.take_length] at hp
      subst hp
      refine ⟨D, _, rfl, .inl ⟨SqL.of hA, fun p np => ?_⟩⟩
      exact ⟨p, ns.map fun x => x * n, rfl, upd_same, fun x H3 e3 hx3 => q x H3 ((e.trans (Ex0.new np)).trans e3) hx3⟩
theorem ok_turning (T : Txt K mg C_Form C_Double) : Def P w K mg base 1 "turning" ["first", "second"] (sp_turning K C_Form C_Double) := by
  obtain ⟨f_, fd_, g_, F_⟩ := T.d_turning
  refine ⟨f_, fd_, g_, F_.kp, F_.binds (ps := ["first", "second"]) (fun _ _ _ _ _ _ us hl => match us, hl with | [_, _], _ => rfl), ?_⟩
  refine F_.ok sc_turning (fun vs H Q E h => ?_) (fun cdv A outer s H vs Q E hr h => ?_)
  · first | (obtain ⟨rfl, _⟩ := h; rfl) | (obtain ⟨_, rfl, _⟩ := h; rfl) | (obtain ⟨_, _, rfl, _⟩ := h; rfl) | (obtain ⟨_, _, _, rfl, _⟩ := h; rfl) | (obtain ⟨_, _, _, _, rfl, _⟩ := h; rfl) | (obtain ⟨_, _, _, _, _, rfl, _⟩ := h; rfl) | (obtain ⟨_, _, _, _, _, _, rfl, _⟩ := h; rfl) | (obtain ⟨_, _, _, _, _, _, _, rfl, _⟩ := h; rfl) | (obtain ⟨_, _, _, _, _, _, _, _, rfl, _⟩ := h; rfl) | (obtain ⟨_, _, _, _, _, _, _, _, _, rfl, _⟩ := h; rfl) | (obtain ⟨_, _, _, _, _, _, _, _, _, _, rfl, _⟩ := h; rfl) | (obtain ⟨_, _, _, _, _, _, _, _, _, _, _, rfl, _⟩ := h; rfl) | (obtain ⟨_, _, _, _, _, _, _, _, _, _, _, _, rfl, _⟩ := h; rfl) | (obtain ⟨_, _, _, _, _, _, _, _, _, _, _, _, _, rfl, _⟩ := h; rfl) | (obtain ⟨_, _, _, _, _, _, _, _, _, _, _, _, _, _, rfl, _⟩ := h; rfl) | (obtain ⟨_, _, _, _, _, _, _, _, _, _, _, _, _, _, _, rfl, _⟩ := h; rfl) | (obtain ⟨_, _, _, _, _, _, _, _, _, _, _, _, _, _, _, _, rfl, _⟩ := h; rfl) | (obtain ⟨_, _, _, _, _, _, _, _, _, _, _, _, _, _, _, _, _, rfl, _⟩ := h; rfl) | (obtain ⟨_, _, _, _, _, _, _, _, _, _, _, _, _, _, _, _, _, _, rfl, _⟩ := h; rfl) | (obtain ⟨_, _, _, _, _, _, _, _, _, _, _, _, _, _, _, _, _, _, _, rfl, _⟩ := h; rfl) | (obtain ⟨_, _, _, _, _, _, _, _, _, _, _, _, _, _, _, _, _, _, _, _, rfl, _⟩ := h; rfl) | (obtain ⟨_, _, _, _, _, _, _, _, _, _, _, _, _, _, _, _, _, _, _, _, _, rfl, _⟩ := h; rfl) | (obtain ⟨_, _, _, _, _, _, _, _, _, _, _, _, _, _, _, _, _, _, _, _, _, _, rfl, _⟩ := h; rfl) | (obtain ⟨_, _, _, _, _, _, _, _, _, _, _, _, _, _, _, _, _, _, _, _, _, _, _, rfl, _⟩ := h; rfl)
  · obtain ⟨a, b, rfl, ba, bb, q⟩ := h
    refine ⟨_, (pss_one (ps_ret (pe_tup (pa_cons (pv 0) (pa_cons (pv 1) (pa_cons (pe_op op_sub (pv 1) (pe_op op_mulW pe_int (pv 0))) (pa_cons (pe_un un_neg (pv 0)) pa_nil))))))), ?_⟩
    have b3 : B 2 3 := ⟨by decide, by decide⟩
    exact ⟨_, rfl, _, rfl, _, rfl, _, rfl, _, _, rfl, rfl, mulB b3 ba (by decide), _, _, rfl, rfl, _, rfl, _, rfl, sl4, fun x nx => q x _ (Ex0.new nx) upd_same⟩
theorem ok_turning_form (T : Txt K mg C_Form C_Double) : Def P w K mg base 7 "turning_form" ["first", "second"] (sp_turning_form K C_Form C_Double) := by
  obtain ⟨f_, fd_, g_, F_⟩ := T.d_turning_form
  obtain ⟨f_check_integer, fd_check_integer, g_check_integer, k_check_integer, b_check_integer, G_check_integer⟩ := (ok_check_integer (P := P) (w := w) (base := base) T)
  obtain ⟨f_form_of, fd_form_of, g_form_of, k_form_of, b_form_of, G_form_of⟩ := (ok_form_of (P := P) (w := w) (base := base) T)
  obtain ⟨f_turning, fd_turning, g_turning, k_turning, b_turning, G_turning⟩ := (ok_turning (P := P) (w := w) (base := base) T)
  refine ⟨f_, fd_, g_, F_.kp, F_.binds (ps := ["first", "second"]) (fun _ _ _ _ _ _ us hl => match us, hl with | [_, _], _ => rfl), ?_⟩
  refine F_.ok sc_turning_form (fun vs H Q E h => ?_) (fun cdv A outer s H vs Q E hr h => ?_)
  · first | (obtain ⟨rfl, _⟩ := h; rfl) | (obtain ⟨_, rfl, _⟩ := h; rfl) | (obtain ⟨_, _, rfl, _⟩ := h; rfl) | (obtain ⟨_, _, _, rfl, _⟩ := h; rfl) | (obtain ⟨_, _, _, _, rfl, _⟩ := h; rfl) | (obtain ⟨_, _, _, _, _, rfl, _⟩ := h; rfl) | (obtain ⟨_, _, _, _, _, _, rfl, _⟩ := h; rfl) | (obtain ⟨_, _, _, _, _, _, _, rfl, _⟩ := h; rfl) | (obtain ⟨_, _, _, _, _, _, _, _, rfl, _⟩ := h; rfl) | (obtain ⟨_, _, _, _, _, _, _, _, _, rfl, _⟩ := h; rfl) | (obtain ⟨_, _, _, _, _, _, _, _, _, _, rfl, _⟩ := h; rfl) | (obtain ⟨_, _, _, _, _, _, _, _, _, _, _, rfl, _⟩ := h; rfl) | (obtain ⟨_, _, _, _, _, _, _, _, _, _, _, _, rfl, _⟩ := h; rfl) | (obtain ⟨_, _, _, _, _, _, _, _, _, _, _, _, _, rfl, _⟩ := h; rfl) | (obtain ⟨_, _, _, _, _, _, _, _, _, _, _, _, _, _, rfl, _⟩ := h; rfl) | (obtain ⟨_, _, _, _, _, _, _, _, _, _, _, _, _, _, _, rfl, _⟩ := h; rfl) | (obtain ⟨_, _, _, _, _, _, _, _, _, _, _, _, _, _, _, _, rfl, _⟩ := h; rfl) | (obtain ⟨_, _, _, _, _, _, _, _, _, _, _, _, _, _, _, _, _, rfl, _⟩ := h; rfl) | (obtain ⟨_, _, _, _, _, _, _, _, _, _, _, _, _, _, _, _, _, _, rfl, _⟩ := h; rfl) | (obtain ⟨_, _, _, _, _, _, _, _, _, _, _, _, _, _, _, _, _, _, _, rfl, _⟩ := h; rfl) | (obtain ⟨_, _, _, _, _, _, _, _, _, _, _, _, _, _, _, _, _, _, _, _, rfl, _⟩ := h; rfl) | (obtain ⟨_, _, _, _, _, _, _, _, _, _, _, _, _, _, _, _, _, _, _, _, _, rfl, _⟩ := h; rfl) | (obtain ⟨_, _, _, _, _, _, _, _, _, _, _, _, _, _, _, _, _, _, _, _, _, _, rfl, _⟩ := h; rfl) | (obtain ⟨_, _, _, _, _, _, _, _, _, _, _, _, _, _, _, _, _, _, _, _, _, _, _, rfl, _⟩ := h; rfl)
  · obtain ⟨a, b, rfl, sa, sb, q⟩ := h
    refine ⟨_, (pss_cons (ps_expr (pe_call G_check_integer (hr.mono (by decide)) (by rfl) g_check_integer k_check_integer b_check_integer .nil pass0 (pa_cons (pv 0) pa_nil)))
    (pss_cons (ps_expr (pe_call G_check_integer (hr.mono (by decide)) (by rfl) g_check_integer k_check_integer b_check_integer .nil pass0 (pa_cons (pv 1) pa_nil)))
    (pss_one (ps_ret (pe_call G_form_of (hr.mono (by decide)) (by rfl) g_form_of k_form_of b_form_of .nil pass0 (pa_cons (pe_call G_turning (hr.mono (by decide)) (by rfl) g_turning k_turning b_turning .nil pass0 (pa_cons (pv 0) (pa_cons (pv 1) pa_nil))) pa_nil)))))), ?_⟩
    refine ⟨_, rfl, a, rfl, sa, ?_⟩
    refine ⟨_, rfl, b, rfl, sb, ?_⟩
    refine ⟨_, rfl, _, rfl, a, b, rfl, sa.b, sb.b, fun t H1 e1 h1 => ?_⟩
    exact ⟨t, _, rfl, h1, fun x H2 e2 hx => q x H2 (e1.trans e2) hx⟩
theorem ok_is_whole_square (T : Txt K mg C_Form C_Double) : Def P w K mg base 1 "is_whole_square" ["number"] (sp_is_whole_square K C_Form C_Double) := by
  obtain ⟨f_, fd_, g_, F_⟩ := T.d_is_whole_square
  refine ⟨f_, fd_, g_, F_.kp, F_.binds (ps := ["number"]) (fun _ _ _ _ _ _ us hl => match us, hl with | [_], _ => rfl), ?_⟩
  refine F_.ok sc_is_whole_square (fun vs H Q E h => ?_) (fun cdv A outer s H vs Q E hr h => ?_)
  · first | (obtain ⟨rfl, _⟩ := h; rfl) | (obtain ⟨_, rfl, _⟩ := h; rfl) | (obtain ⟨_, _, rfl, _⟩ := h; rfl) | (obtain ⟨_, _, _, rfl, _⟩ := h; rfl) | (obtain ⟨_, _, _, _, rfl, _⟩ := h; rfl) | (obtain ⟨_, _, _, _, _, rfl, _⟩ := h; rfl) | (obtain ⟨_, _, _, _, _, _, rfl, _⟩ := h; rfl) | (obtain ⟨_, _, _, _, _, _, _, rfl, _⟩ := h; rfl) | (obtain ⟨_, _, _, _, _, _, _, _, rfl, _⟩ := h; rfl) | (obtain ⟨_, _, _, _, _, _, _, _, _, rfl, _⟩ := h; rfl) | (obtain ⟨_, _, _, _, _, _, _, _, _, _, rfl, _⟩ := h; rfl) | (obtain ⟨_, _, _, _, _, _, _, _, _, _, _, rfl, _⟩ := h; rfl) | (obtain ⟨_, _, _, _, _, _, _, _, _, _, _, _, rfl, _⟩ := h; rfl) | (obtain ⟨_, _, _, _, _, _, _, _, _, _, _, _, _, rfl, _⟩ := h; rfl) | (obtain ⟨_, _, _, _, _, _, _, _, _, _, _, _, _, _, rfl, _⟩ := h; rfl) | (obtain ⟨_, _, _, _, _, _, _, _, _, _, _, _, _, _, _, rfl, _⟩ := h; rfl) | (obtain ⟨_, _, _, _, _, _, _, _, _, _, _, _, _, _, _, _, rfl, _⟩ := h; rfl) | (obtain ⟨_, _, _, _, _, _, _, _, _, _, _, _, _, _, _, _, _, rfl, _⟩ := h; rfl) | (obtain ⟨_, _, _, _, _, _, _, _, _, _, _, _, _, _, _, _, _, _, rfl, _⟩ := h; rfl) | (obtain ⟨_, _, _, _, _, _, _, _, _, _, _, _, _, _, _, _, _, _, _, rfl, _⟩ := h; rfl) | (obtain ⟨_, _, _, _, _, _, _, _, _, _, _, _, _, _, _, _, _, _, _, _, rfl, _⟩ := h; rfl) | (obtain ⟨_, _, _, _, _, _, _, _, _, _, _, _, _, _, _, _, _, _, _, _, _, rfl, _⟩ := h; rfl) | (obtain ⟨_, _, _, _, _, _, _, _, _, _, _, _, _, _, _, _, _, _, _, _, _, _, rfl, _⟩ := h; rfl) | (obtain ⟨_, _, _, _, _, _, _, _, _, _, _, _, _, _, _, _, _, _, _, _, _, _, _, rfl, _⟩ := h; rfl)
  · obtain ⟨n, rfl, bn, q⟩ := h
    refine ⟨_, (pss_one (ps_ret (pe_and (pe_cmpR op_ge (pv 0) pe_int (nomark _)) (pe_one (pe_cmpR op_eq (pe_op op_mulW (pe_callBfun cr_isqrt (by rfl) T.m_isqrt (pa_cons (pv 0) pa_nil)) (pe_callBfun cr_isqrt (by rfl) T.m_isqrt (pa_cons (pv 0) pa_nil))) (pv 0) (nomark _)))))), ?_⟩
    have lg := Nat.lt_of_lt_of_le (log_lt bn.1 bn.2) (by decide : 12000 ≤ 13000)
    refine ⟨_, rfl, _, _, rfl, rfl, _, rfl, iteD (fun h => ?_) (fun h => ?_)⟩
    · refine ⟨_, rfl, n, rfl, h, lg, fun r r0 r1 r2 => ?_⟩
      refine ⟨_, rfl, n, rfl, h, lg, fun r' r0' r1' r2' => ?_⟩
      have hr : r' = r := by
        rcases Int.lt_trichotomy r' r with z | z | z
        · exfalso
          have := Int.mul_le_mul (show r' + 1 ≤ r by omega) (show r' + 1 ≤ r by omega) (by omega) (by omega)
          omega
        · exact z
        · exfalso
          have := Int.mul_le_mul (show r + 1 ≤ r' by omega) (show r + 1 ≤ r' by omega) (by omega) (by omega)
          omega
      subst hr
      have br : B 6000 r' := sqB r1 bn (by decide) (by decide)
      refine ⟨_, _, rfl, rfl, mulB br br (by decide), _, rfl, rfl, ?_⟩
      rw [deI]
      refine q _ ?_
      rw [decide_eq_true_iff]
      refine ⟨fun e => ⟨r', r0, e⟩, fun ⟨m, m0, e⟩ => ?_⟩
      have : m = r' := by
        rcases Int.lt_trichotomy m r' with z | z | z
        · exfalso
          have := Int.mul_le_mul (show m + 1 ≤ r' by omega) (show m + 1 ≤ r' by omega) (by omega) (by omega)
          have e2 : (m + 1) * (m + 1) = m * m + 2 * m + 1 := by grind
          omega
        · exact z
        · exfalso
          have := Int.mul_le_mul (show r' + 1 ≤ m by omega) (show r' + 1 ≤ m by omega) (by omega) (by omega)
          omega
      rw [← this]
      exact e
    · refine q _ ?_
      refine ⟨fun e => (by cases e), fun ⟨m, m0, e⟩ => ?_⟩
      exfalso
      have := TurnM.sqn m
      omega
theorem ok_is_turning (T : Txt K mg C_Form C_Double) : Def P w K mg base 5 "is_turning" ["form"] (sp_is_turning K C_Form C_Double) := by
  obtain ⟨f_, fd_, g_, F_⟩ := T.d_is_turning
  obtain ⟨p_Form_coefficients, f_Form_coefficients, fd_Form_coefficients, R_Form_coefficients, b_Form_coefficients, G_Form_coefficients⟩ := (ok_Form_coefficients (P := P) (w := w) (base := base) T)
  obtain ⟨p_Form_discriminant, f_Form_discriminant, fd_Form_discriminant, R_Form_discriminant, b_Form_discriminant, G_Form_discriminant⟩ := (ok_Form_discriminant (P := P) (w := w) (base := base) T)
  obtain ⟨f_check_form, fd_check_form, g_check_form, k_check_form, b_check_form, G_check_form⟩ := (ok_check_form (P := P) (w := w) (base := base) T)
  obtain ⟨f_double_led, fd_double_led, g_double_led, k_double_led, b_double_led, G_double_led⟩ := (ok_double_led (P := P) (w := w) (base := base) T)
  obtain ⟨f_double_way, fd_double_way, g_double_way, k_double_way, b_double_way, G_double_way⟩ := (ok_double_way (P := P) (w := w) (base := base) T)
  obtain ⟨f_form_hessian, fd_form_hessian, g_form_hessian, k_form_hessian, b_form_hessian, G_form_hessian⟩ := (ok_form_hessian (P := P) (w := w) (base := base) T)
  obtain ⟨f_is_whole_square, fd_is_whole_square, g_is_whole_square, k_is_whole_square, b_is_whole_square, G_is_whole_square⟩ := (ok_is_whole_square (P := P) (w := w) (base := base) T)
  refine ⟨f_, fd_, g_, F_.kp, F_.binds (ps := ["form"]) (fun _ _ _ _ _ _ us hl => match us, hl with | [_], _ => rfl), ?_⟩
  refine F_.ok sc_is_turning (fun vs H Q E h => ?_) (fun cdv A outer s H vs Q E hr h => ?_)
  · first | (obtain ⟨rfl, _⟩ := h; rfl) | (obtain ⟨_, rfl, _⟩ := h; rfl) | (obtain ⟨_, _, rfl, _⟩ := h; rfl) | (obtain ⟨_, _, _, rfl, _⟩ := h; rfl) | (obtain ⟨_, _, _, _, rfl, _⟩ := h; rfl) | (obtain ⟨_, _, _, _, _, rfl, _⟩ := h; rfl) | (obtain ⟨_, _, _, _, _, _, rfl, _⟩ := h; rfl) | (obtain ⟨_, _, _, _, _, _, _, rfl, _⟩ := h; rfl) | (obtain ⟨_, _, _, _, _, _, _, _, rfl, _⟩ := h; rfl) | (obtain ⟨_, _, _, _, _, _, _, _, _, rfl, _⟩ := h; rfl) | (obtain ⟨_, _, _, _, _, _, _, _, _, _, rfl, _⟩ := h; rfl) | (obtain ⟨_, _, _, _, _, _, _, _, _, _, _, rfl, _⟩ := h; rfl) | (obtain ⟨_, _, _, _, _, _, _, _, _, _, _, _, rfl, _⟩ := h; rfl) | (obtain ⟨_, _, _, _, _, _, _, _, _, _, _, _, _, rfl, _⟩ := h; rfl) | (obtain ⟨_, _, _, _, _, _, _, _, _, _, _, _, _, _, rfl, _⟩ := h; rfl) | (obtain ⟨_, _, _, _, _, _, _, _, _, _, _, _, _, _, _, rfl, _⟩ := h; rfl) | (obtain ⟨_, _, _, _, _, _, _, _, _, _, _, _, _, _, _, _, rfl, _⟩ := h; rfl) | (obtain ⟨_, _, _, _, _, _, _, _, _, _, _, _, _, _, _, _, _, rfl, _⟩ := h; rfl) | (obtain ⟨_, _, _, _, _, _, _, _, _, _, _, _, _, _, _, _, _, _, rfl, _⟩ := h; rfl) | (obtain ⟨_, _, _, _, _, _, _, _, _, _, _, _, _, _, _, _, _, _, _, rfl, _⟩ := h; rfl) | (obtain ⟨_, _, _, _, _, _, _, _, _, _, _, _, _, _, _, _, _, _, _, _, rfl, _⟩ := h; rfl) | (obtain ⟨_, _, _, _, _, _, _, _, _, _, _, _, _, _, _, _, _, _, _, _, _, rfl, _⟩ := h; rfl) | (obtain ⟨_, _, _, _, _, _, _, _, _, _, _, _, _, _, _, _, _, _, _, _, _, _, rfl, _⟩ := h; rfl) | (obtain ⟨_, _, _, _, _, _, _, _, _, _, _, _, _, _, _, _, _, _, _, _, _, _, _, rfl, _⟩ := h; rfl)
  · obtain ⟨z, a, b, c, d, rfl, hz, ba, bb, bc, bd, hd, q⟩ := h
    refine ⟨_, (pss_cons (ps_expr (pe_call G_check_form (hr.mono (by decide)) (by rfl) g_check_form k_check_form b_check_form .nil pass0 (pa_cons (pv 0) pa_nil)))
    (pss_cons (ps_set (i := 1) sc_is_turning.nd rfl (.inl rfl) (pe_prop (pv 0) T.cl_Form R_Form_discriminant G_Form_discriminant (hr.mono (by decide)) b_Form_discriminant .nil pass0 (by rfl)))
    (pss_cons (ps_if (pt_cmpR op_eq (pv 1) pe_int (nomark _))
      pss_never
      pss_nil)
    (pss_cons (ps_if (pt_not (pt_val (pe_call G_is_whole_square (hr.mono (by decide)) (by rfl) g_is_whole_square k_is_whole_square b_is_whole_square .nil pass0 (pa_cons (pv 1) pa_nil))))
      (pss_one (ps_ret pe_bl))
      pss_nil)
    (pss_cons (ps_set (i := 2) sc_is_turning.nd rfl (.inl rfl) (pe_call G_form_hessian (hr.mono (by decide)) (by rfl) g_form_hessian k_form_hessian b_form_hessian .nil pass0 (pa_cons (pe_prop (pv 0) T.cl_Form R_Form_coefficients G_Form_coefficients (hr.mono (by decide)) b_Form_coefficients .nil pass0 (by rfl)) pa_nil)))
    (pss_cons (ps_asg (pe_call G_double_led (hr.mono (by decide)) (by rfl) g_double_led k_double_led b_double_led .nil pass0 (pa_cons (pv 2) (pa_cons (pe_call G_double_way (hr.mono (by decide)) (by rfl) g_double_way k_double_way b_double_way .nil pass0 (pa_cons (pv 2) pa_nil)) pa_nil))) (pg_tup (by rfl) (pgs_cons (pg_name (i := 3) sc_is_turning.nd rfl (.inl rfl)) (pgs_cons (pg_name (i := 4) sc_is_turning.nd rfl (.inl rfl)) (pgs_cons (pg_name (i := 5) sc_is_turning.nd rfl (.inl rfl)) pgs_nil)))))
    (pss_one (ps_ret (pe_and (pe_cmpR op_eq (pv 3) (pv 4) (nomark _)) (pe_one (pe_cmpR op_eq (pv 4) (pv 5) (nomark _)))))))))))), ?_⟩
    obtain ⟨dx, t, hx, ht⟩ := id hz
    have b3 : B 2 3 := ⟨by decide, by decide⟩
    have b9 : B 4 9 := ⟨by decide, by decide⟩
    have bh0 : B 470 (h0 a b c d) := by
      unfold h0
      exact (B.less (n := 468) ((B.mul bb bb).mono (by decide)) ((B.mul (B.mul b3 ba) bc).mono (by decide))).mono (by decide)
    have bh1 : B 470 (h1 a b c d) := by
      unfold h1
      exact (B.less (n := 468) ((B.mul bb bc).mono (by decide)) ((B.mul (B.mul b9 ba) bd).mono (by decide))).mono (by decide)
    have bh2 : B 470 (h2 a b c d) := by
      unfold h2
      exact (B.less (n := 468) ((B.mul bc bc).mono (by decide)) ((B.mul (B.mul b3 bb) bd).mono (by decide))).mono (by decide)
    have dh : 4 * h0 a b c d * h2 a b c d - h1 a b c d * h1 a b c d = 3 * fdisc a b c d := by
      have := hdisc a b c d
      unfold ddisc at this
      omega
    have bD : B 12000 (fdisc a b c d) := by
      have b4 : B 3 4 := ⟨by decide, by decide⟩
      have k1 : B 950 (3 * fdisc a b c d) := by
        rw [← dh]
        exact (B.less (n := 945) ((B.mul (B.mul b4 bh0) bh2).mono (by decide)) ((B.mul bh1 bh1).mono (by decide))).mono (by decide)
      refine ⟨?_, by decide⟩
      have k2 := k1.1
      have k3 : (2 : Nat) ^ 950 ≤ 2 ^ 12000 := Nat.pow_le_pow_right (by decide) (by decide)
      omega
    refine ⟨_, rfl, z, _, rfl, hz, ?_⟩
    refine ⟨_, rfl, z, dx, _, rfl, hx, z, a, b, c, d, rfl, hz, ba.mono (by decide), bb.mono (by decide), bc.mono (by decide), bd.mono (by decide), ?_⟩
    refine ⟨_, rfl, rfl, _, rfl, iteE (fun h => absurd h hd) (fun _ => ?_)⟩
    refine ⟨_, rfl, _, rfl, bD, fun b1 hb1 => ⟨_, rfl, ?_⟩⟩
    cases b1 with
    | false =>
      refine iteT ?_
      have := q H (Ex0.refl H)
      rw [decide_eq_false (fun e => by cases hb1.mpr ⟨_, Int.natCast_nonneg _, e⟩)] at this
      exact this
    | true =>
      refine iteF ?_
      obtain ⟨m, m0, hm⟩ := hb1.mp rfl
      have dpos : 0 < fdisc a b c d := by
        have := TurnM.sqn m
        omega
      obtain ⟨p0, p2⟩ := TurnM.first_pos dpos
      refine ⟨_, rfl, z, dx, _, rfl, hx, z, _, rfl, hz, fun t' ht' => ?_⟩
      refine ⟨t', a, b, c, d, rfl, ht', ba.mono (by decide), bb.mono (by decide), bc.mono (by decide), bd.mono (by decide), fun hq H1 e1 hh => ?_⟩
      refine ⟨_, rfl, _, rfl, hq, _, _, _, rfl, hh, bh0, bh1, bh2, p0, p2, by omega, fun x p q' r s' H2 e2 hx2 bp bq br bs hdet red => ?_⟩
      refine ⟨hq, x, _, _, _, p, q', r, s', rfl, Ex0.ti e2 hh, hx2, bh0.mono (by decide), bh1.mono (by decide), bh2.mono (by decide), bp, bq, br, bs, fun l H3 e3 hl => ?_⟩
      refine unI3 hl ?_
      have gi := dgcd_led (h0 a b c d) (h1 a b c d) (h2 a b c d) p q' r s' hdet
      have dd := ddisc_led1 (h0 a b c d) (h1 a b c d) (h2 a b c d) p q' r s' hdet
      rw [hdisc] at dd
      have ti := TurnM.turn_iff (D := fdisc a b c d) (g := gcdL [h0 a b c d, h1 a b c d, h2 a b c d]) red (by unfold ddisc at dd; omega) (fun k => by
        rw [← gi, gcdL_dvd]
        unfold dled
        simp)
      have fin := q H3 ((e1.trans e2).trans e3)
      refine ⟨_, rfl, _, rfl, rfl, _, rfl, iteE (fun h => ?_) (fun h => ?_)⟩
      · refine ⟨_, rfl, _, rfl, rfl, ?_⟩
        rw [deI, show decide (dl (h0 a b c d) (h1 a b c d) (h2 a b c d) p q' r s' = dv (h0 a b c d) (h1 a b c d) (h2 a b c d) r s') = decide ((gcdL [h0 a b c d, h1 a b c d, h2 a b c d] : Int) * gcdL [h0 a b c d, h1 a b c d, h2 a b c d] = fdisc a b c d) from decide_eq_decide.mpr ⟨fun z => ti.mp ⟨h, z⟩, fun z => (ti.mpr z).2⟩]
        exact fin
      · rw [decide_eq_false (fun z => h (ti.mpr z).1)] at fin
        exact fin
end
end TF
namespace TF
open PySem PySem.Spec PyProof.Rows L2 Fr
open K05M (fv fl2 fl3 fdisc)
open K06M
theorem disc_mul (e a b c d : Int) : fdisc (e * a) (e * b) (e * c) (e * d) = e * e * e * e * fdisc a b c d := by unfold fdisc; grind
theorem fled_turn (a b c d p q r s : Int) (hd : p * s - q * r = 1 ∨ p * s - q * r = -1) :
    [h0 ((p * s - q * r) * fv a b c d p q) ((p * s - q * r) * fl2 a b c d p q r s) ((p * s - q * r) * fl3 a b c d p q r s) ((p * s - q * r) * fv a b c d r s), h1 ((p * s - q * r) * fv a b c d p q) ((p * s - q * r) * fl2 a b c d p q r s) ((p * s - q * r) * fl3 a b c d p q r s) ((p * s - q * r) * fv a b c d r s), h2 ((p * s - q * r) * fv a b c d p q) ((p * s - q * r) * fl2 a b c d p q r s) ((p * s - q * r) * fl3 a b c d p q r s) ((p * s - q * r) * fv a b c d r s)] = dled (h0 a b c d) (h1 a b c d) (h2 a b c d) p q r s ∧
    fdisc ((p * s - q * r) * fv a b c d p q) ((p * s - q * r) * fl2 a b c d p q r s) ((p * s - q * r) * fl3 a b c d p q r s) ((p * s - q * r) * fv a b c d r s) = fdisc a b c d := by
  obtain ⟨m0, m1, m2⟩ := h_mul (p * s - q * r) (fv a b c d p q) (fl2 a b c d p q r s) (fl3 a b c d p q r s) (fv a b c d r s)
  rw [m0, m1, m2, disc_mul, led0, led1, led2, K05M.disc]
  have e1 : (p * s - q * r) * (p * s - q * r) = 1 := by rcases hd with h | h <;> rw [h] <;> rfl
  unfold dled
  generalize p * s - q * r = e at e1
  constructor
  · rw [e1, Int.one_mul, Int.one_mul, Int.one_mul, Int.one_mul, Int.one_mul, Int.one_mul]
  · have : e * e * e * e * (e * e * e * e * e * e * fdisc a b c d) = (e * e) * (e * e) * (e * e) * (e * e) * (e * e) * fdisc a b c d := by grind
    rw [this, e1]
    simp
theorem fled_B {a b c d p q r s : Int} (ba : B 34 a) (bb : B 34 b) (bc : B 34 c) (bd : B 34 d) (bp : B 61 p) (bq : B 61 q) (br : B 61 r) (bs : B 61 s) (hd : p * s - q * r = 1 ∨ p * s - q * r = -1) : ∀ n ∈ fled a b c d p q r s, B 230 n := by
  have b2 : B 2 2 := ⟨by decide, by decide⟩
  have b3 : B 2 3 := ⟨by decide, by decide⟩
  have e := e_B hd
  have fvB : ∀ {x y : Int}, B 61 x → B 61 y → B 224 (fv a b c d x y) := fun hx hy => by
    unfold fv
    exact (B.plus (B.plus (B.plus (n := 220) ((B.mul (B.mul (B.mul ba hx) hx) hx).mono (by decide)) ((B.mul (B.mul (B.mul bb hx) hx) hy).mono (by decide))) ((B.mul (B.mul (B.mul bc hx) hy) hy).mono (by decide))) ((B.mul (B.mul (B.mul bd hy) hy) hy).mono (by decide))).mono (by decide)
  have m1 : B 126 (p * s + 2 * q * r) := (B.plus (n := 125) ((B.mul bp bs).mono (by decide)) ((B.mul (B.mul b2 bq) br).mono (by decide))).mono (by decide)
  have m2 : B 126 (2 * p * s + q * r) := (B.plus (n := 125) ((B.mul (B.mul b2 bp) bs).mono (by decide)) ((B.mul bq br).mono (by decide))).mono (by decide)
  have f2 : B 227 (fl2 a b c d p q r s) := by
    unfold fl2
    exact (B.plus (B.plus (B.plus (n := 223) ((B.mul (B.mul (B.mul (B.mul b3 ba) bp) bp) br).mono (by decide)) ((B.mul (B.mul bb bp) m1).mono (by decide))) ((B.mul (B.mul bc bq) m2).mono (by decide))) ((B.mul (B.mul (B.mul (B.mul b3 bd) bq) bq) bs).mono (by decide))).mono (by decide)
  have f3 : B 227 (fl3 a b c d p q r s) := by
    unfold fl3
    exact (B.plus (B.plus (B.plus (n := 223) ((B.mul (B.mul (B.mul (B.mul b3 ba) bp) br) br).mono (by decide)) ((B.mul (B.mul bb br) m2).mono (by decide))) ((B.mul (B.mul bc bs) m1).mono (by decide))) ((B.mul (B.mul (B.mul (B.mul b3 bd) bq) bs) bs).mono (by decide))).mono (by decide)
  intro n hn
  unfold fled at hn
  simp only [List.mem_cons, List.mem_nil_iff, or_false] at hn
  rcases hn with rfl | rfl | rfl | rfl
  · exact (B.mul e (fvB bp bq)).mono (by decide)
  · exact (B.mul e f2).mono (by decide)
  · exact (B.mul e f3).mono (by decide)
  · exact (B.mul e (fvB br bs)).mono (by decide)
theorem turn_led (a b : Int) : fled a b (b - 3 * a) (-a) 0 (-1) 1 (-1) = [a, b, b - 3 * a, -a] := by
  unfold fled fv fl2 fl3
  simp only [List.cons.injEq, and_true]
  refine ⟨?_, ?_, ?_, ?_⟩ <;> grind
theorem gcd_same (v : Int) : gcdL [v, v, v] = v.natAbs := by
  unfold gcdL
  simp only [List.foldl, Nat.gcd_zero_left, Nat.gcd_self]
theorem Gd.b3 {p q r s : Int} (h : Gd 3 p q r s) : B 61 p ∧ B 61 q ∧ B 61 r ∧ B 61 s := by
  obtain ⟨h1, h2, h3, h4, _⟩ := h
  exact ⟨⟨Nat.lt_of_le_of_lt h1 (by decide), by decide⟩, ⟨Nat.lt_of_le_of_lt h2 (by decide), by decide⟩, ⟨Nat.lt_of_le_of_lt h3 (by decide), by decide⟩, ⟨Nat.lt_of_le_of_lt h4 (by decide), by decide⟩⟩
def sp_l_middle (_ : PySem.W.Frag) (_ _ : Addr) : Sp := fun vs H Q _ => ∃ c : Addr, vs = [.ref c] ∧ Vat c H ∧ ∀ (n : Int) H', n.natAbs ≤ 1000000000 → Fv c H H' → Q (.int n) H'
def sp_l_turning (_ : PySem.W.Frag) (_ _ : Addr) : Sp := fun vs H Q _ => ∃ a b : Int, vs = [.int a, .int b] ∧ B 200 a ∧ B 200 b ∧ ∀ x H', Ex0 H H' → Ti H' x [a, b, b - 3 * a, -a] → Q (.ref x) H'
def sp_l_turns (_ : PySem.W.Frag) (_ _ : Addr) : Sp := fun vs H Q _ => ∃ (t : Addr) (a b c d : Int), vs = [.ref t] ∧ Ti H t [a, b, c, d] ∧ B 400 a ∧ B 400 b ∧ B 400 c ∧ B 400 d ∧ ∀ H', Ex0 H H' → Q (.bl (decide ((gcdL [h0 a b c d, h1 a b c d, h2 a b c d] : Int) * gcdL [h0 a b c d, h1 a b c d, h2 a b c d] = fdisc a b c d))) H'
def sp_l_right (_ : PySem.W.Frag) (_ _ : Addr) : Sp := fun vs H Q _ => ∃ c : Addr, vs = [.ref c] ∧ Vat c H ∧ ∀ H', Fv c H H' → Q (.bl true) H'
section
variable {P : Program} {w : World} {K : PySem.W.Frag} {mg : Str → Option Value} {base : Heap} {C_Form C_Double : Addr}
theorem ok_l_middle (T : Txt K mg C_Form C_Double) : Def P w K mg base 3 "_law_middle" ["_law_cask_here"] (sp_l_middle K C_Form C_Double) := by
  obtain ⟨f_, fd_, g_, F_⟩ := T.d_l_middle
  obtain ⟨f_l_one, fd_l_one, g_l_one, k_l_one, b_l_one, G_l_one⟩ := (ok_l_one (P := P) (w := w) (base := base) T)
  obtain ⟨f_l_tap, fd_l_tap, g_l_tap, k_l_tap, b_l_tap, G_l_tap⟩ := (ok_l_tap (P := P) (w := w) (base := base) T)
  refine ⟨f_, fd_, g_, F_.kp, F_.binds (ps := ["_law_cask_here"]) (fun _ _ _ _ _ _ us hl => match us, hl with | [_], _ => rfl), ?_⟩
  refine F_.ok sc_l_middle (fun vs H Q E h => ?_) (fun cdv A outer s H vs Q E hr h => ?_)
  · first | (obtain ⟨rfl, _⟩ := h; rfl) | (obtain ⟨_, rfl, _⟩ := h; rfl) | (obtain ⟨_, _, rfl, _⟩ := h; rfl) | (obtain ⟨_, _, _, rfl, _⟩ := h; rfl) | (obtain ⟨_, _, _, _, rfl, _⟩ := h; rfl) | (obtain ⟨_, _, _, _, _, rfl, _⟩ := h; rfl) | (obtain ⟨_, _, _, _, _, _, rfl, _⟩ := h; rfl) | (obtain ⟨_, _, _, _, _, _, _, rfl, _⟩ := h; rfl) | (obtain ⟨_, _, _, _, _, _, _, _, rfl, _⟩ := h; rfl) | (obtain ⟨_, _, _, _, _, _, _, _, _, rfl, _⟩ := h; rfl) | (obtain ⟨_, _, _, _, _, _, _, _, _, _, rfl, _⟩ := h; rfl) | (obtain ⟨_, _, _, _, _, _, _, _, _, _, _, rfl, _⟩ := h; rfl) | (obtain ⟨_, _, _, _, _, _, _, _, _, _, _, _, rfl, _⟩ := h; rfl) | (obtain ⟨_, _, _, _, _, _, _, _, _, _, _, _, _, rfl, _⟩ := h; rfl) | (obtain ⟨_, _, _, _, _, _, _, _, _, _, _, _, _, _, rfl, _⟩ := h; rfl) | (obtain ⟨_, _, _, _, _, _, _, _, _, _, _, _, _, _, _, rfl, _⟩ := h; rfl) | (obtain ⟨_, _, _, _, _, _, _, _, _, _, _, _, _, _, _, _, rfl, _⟩ := h; rfl) | (obtain ⟨_, _, _, _, _, _, _, _, _, _, _, _, _, _, _, _, _, rfl, _⟩ := h; rfl) | (obtain ⟨_, _, _, _, _, _, _, _, _, _, _, _, _, _, _, _, _, _, rfl, _⟩ := h; rfl) | (obtain ⟨_, _, _, _, _, _, _, _, _, _, _, _, _, _, _, _, _, _, _, rfl, _⟩ := h; rfl) | (obtain ⟨_, _, _, _, _, _, _, _, _, _, _, _, _, _, _, _, _, _, _, _, rfl, _⟩ := h; rfl) | (obtain ⟨_, _, _, _, _, _, _, _, _, _, _, _, _, _, _, _, _, _, _, _, _, rfl, _⟩ := h; rfl) | (obtain ⟨_, _, _, _, _, _, _, _, _, _, _, _, _, _, _, _, _, _, _, _, _, _, rfl, _⟩ := h; rfl) | (obtain ⟨_, _, _, _, _, _, _, _, _, _, _, _, _, _, _, _, _, _, _, _, _, _, _, rfl, _⟩ := h; rfl)
  · obtain ⟨c, rfl, hc, q⟩ := h
    refine ⟨_, (pss_cons (ps_set (i := 1) sc_l_middle.nd rfl (.inl rfl) (pe_call G_l_one (hr.mono (by decide)) (by rfl) g_l_one k_l_one b_l_one .nil pass0 (pa_cons (pv 0) (pa_cons (pe_lst (pa_cons pe_int (pa_cons pe_int (pa_cons pe_int (pa_cons pe_int (pa_cons pe_int (pa_cons pe_int (pa_cons pe_int (pa_cons (pe_op op_pow pe_int pe_int) pa_nil))))))))) pa_nil))))
    (pss_one (ps_ret (pe_op op_sub (pe_call G_l_tap (hr.mono (by decide)) (by rfl) g_l_tap k_l_tap b_l_tap .nil pass0 (pa_cons (pv 0) (pa_cons (pe_op op_add (pe_op op_mulW pe_int (pv 1)) pe_int) pa_nil))) (pv 1))))), ?_⟩
    refine ⟨_, rfl, _, _, rfl, rfl, ⟨by decide, by decide, by decide⟩, slN (by decide), fun l nl => ?_⟩
    refine ⟨c, l, [.int 2, .int 4, .int 4, .int 9, .int 9, .int 30, .int 300, .int 1000000000], rfl, vat_new hc nl, upd_same, fv_ne hc nl, by simp, by show 8 ≤ 1000; decide, fun v H1 hv e1 => ?_⟩
    obtain ⟨f, rfl, f0, f1⟩ : ∃ f : Int, v = .int f ∧ 0 < f ∧ f ≤ 1000000000 := by
      simp only [List.mem_cons, List.mem_nil_iff, or_false] at hv
      rcases hv with rfl | rfl | rfl | rfl | rfl | rfl | rfl | rfl <;> exact ⟨_, rfl, by decide, by decide⟩
    have b2 : B 2 2 := ⟨by decide, by decide⟩
    have bf : B 40 f := ⟨by omega, by decide⟩
    have e2 := (fv_new hc nl).trans e1
    refine ⟨_, rfl, _, rfl, _, _, rfl, rfl, mulB b2 bf (by decide), _, _, rfl, rfl, c, 2 * f + 1, rfl, e2.1, by omega, by omega, fun r H2 r0 r1 e3 => ?_⟩
    exact ⟨_, rfl, _, _, rfl, rfl, q _ _ (by omega) (e2.trans e3)⟩
theorem ok_l_turning (T : Txt K mg C_Form C_Double) : Def P w K mg base 1 "_law_turning" ["_law_a", "_law_b"] (sp_l_turning K C_Form C_Double) := by
  obtain ⟨f_, fd_, g_, F_⟩ := T.d_l_turning
  refine ⟨f_, fd_, g_, F_.kp, F_.binds (ps := ["_law_a", "_law_b"]) (fun _ _ _ _ _ _ us hl => match us, hl with | [_, _], _ => rfl), ?_⟩
  refine F_.ok sc_l_turning (fun vs H Q E h => ?_) (fun cdv A outer s H vs Q E hr h => ?_)
  · first | (obtain ⟨rfl, _⟩ := h; rfl) | (obtain ⟨_, rfl, _⟩ := h; rfl) | (obtain ⟨_, _, rfl, _⟩ := h; rfl) | (obtain ⟨_, _, _, rfl, _⟩ := h; rfl) | (obtain ⟨_, _, _, _, rfl, _⟩ := h; rfl) | (obtain ⟨_, _, _, _, _, rfl, _⟩ := h; rfl) | (obtain ⟨_, _, _, _, _, _, rfl, _⟩ := h; rfl) | (obtain ⟨_, _, _, _, _, _, _, rfl, _⟩ := h; rfl) | (obtain ⟨_, _, _, _, _, _, _, _, rfl, _⟩ := h; rfl) | (obtain ⟨_, _, _, _, _, _, _, _, _, rfl, _⟩ := h; rfl) | (obtain ⟨_, _, _, _, _, _, _, _, _, _, rfl, _⟩ := h; rfl) | (obtain ⟨_, _, _, _, _, _, _, _, _, _, _, rfl, _⟩ := h; rfl) | (obtain ⟨_, _, _, _, _, _, _, _, _, _, _, _, rfl, _⟩ := h; rfl) | (obtain ⟨_, _, _, _, _, _, _, _, _, _, _, _, _, rfl, _⟩ := h; rfl) | (obtain ⟨_, _, _, _, _, _, _, _, _, _, _, _, _, _, rfl, _⟩ := h; rfl) | (obtain ⟨_, _, _, _, _, _, _, _, _, _, _, _, _, _, _, rfl, _⟩ := h; rfl) | (obtain ⟨_, _, _, _, _, _, _, _, _, _, _, _, _, _, _, _, rfl, _⟩ := h; rfl) | (obtain ⟨_, _, _, _, _, _, _, _, _, _, _, _, _, _, _, _, _, rfl, _⟩ := h; rfl) | (obtain ⟨_, _, _, _, _, _, _, _, _, _, _, _, _, _, _, _, _, _, rfl, _⟩ := h; rfl) | (obtain ⟨_, _, _, _, _, _, _, _, _, _, _, _, _, _, _, _, _, _, _, rfl, _⟩ := h; rfl) | (obtain ⟨_, _, _, _, _, _, _, _, _, _, _, _, _, _, _, _, _, _, _, _, rfl, _⟩ := h; rfl) | (obtain ⟨_, _, _, _, _, _, _, _, _, _, _, _, _, _, _, _, _, _, _, _, _, rfl, _⟩ := h; rfl) | (obtain ⟨_, _, _, _, _, _, _, _, _, _, _, _, _, _, _, _, _, _, _, _, _, _, rfl, _⟩ := h; rfl) | (obtain ⟨_, _, _, _, _, _, _, _, _, _, _, _, _, _, _, _, _, _, _, _, _, _, _, rfl, _⟩ := h; rfl)
  · obtain ⟨a, b, rfl, ba, bb, q⟩ := h
    refine ⟨_, (pss_one (ps_ret (pe_tup (pa_cons (pv 0) (pa_cons (pv 1) (pa_cons (pe_op op_sub (pv 1) (pe_op op_mulW pe_int (pv 0))) (pa_cons (pe_op op_sub pe_int (pv 0)) pa_nil))))))), ?_⟩
    have b3 : B 2 3 := ⟨by decide, by decide⟩
    refine ⟨_, rfl, _, rfl, _, rfl, _, rfl, _, _, rfl, rfl, mulB b3 ba (by decide), _, _, rfl, rfl, _, rfl, _, _, rfl, rfl, sl4, fun x nx => q x _ (Ex0.new nx) ?_⟩
    have e : (0 : Int) - a = -a := by omega
    rw [← e]
    exact upd_same
theorem ok_l_turns (T : Txt K mg C_Form C_Double) : Def P w K mg base 3 "_law_turns" ["_law_row"] (sp_l_turns K C_Form C_Double) := by
  obtain ⟨f_, fd_, g_, F_⟩ := T.d_l_turns
  obtain ⟨f_l_common, fd_l_common, g_l_common, k_l_common, b_l_common, G_l_common⟩ := (ok_l_common (P := P) (w := w) (base := base) T)
  obtain ⟨f_l_discriminant, fd_l_discriminant, g_l_discriminant, k_l_discriminant, b_l_discriminant, G_l_discriminant⟩ := (ok_l_discriminant (P := P) (w := w) (base := base) T)
  obtain ⟨f_l_hessian, fd_l_hessian, g_l_hessian, k_l_hessian, b_l_hessian, G_l_hessian⟩ := (ok_l_hessian (P := P) (w := w) (base := base) T)
  refine ⟨f_, fd_, g_, F_.kp, F_.binds (ps := ["_law_row"]) (fun _ _ _ _ _ _ us hl => match us, hl with | [_], _ => rfl), ?_⟩
  refine F_.ok sc_l_turns (fun vs H Q E h => ?_) (fun cdv A outer s H vs Q E hr h => ?_)
  · first | (obtain ⟨rfl, _⟩ := h; rfl) | (obtain ⟨_, rfl, _⟩ := h; rfl) | (obtain ⟨_, _, rfl, _⟩ := h; rfl) | (obtain ⟨_, _, _, rfl, _⟩ := h; rfl) | (obtain ⟨_, _, _, _, rfl, _⟩ := h; rfl) | (obtain ⟨_, _, _, _, _, rfl, _⟩ := h; rfl) | (obtain ⟨_, _, _, _, _, _, rfl, _⟩ := h; rfl) | (obtain ⟨_, _, _, _, _, _, _, rfl, _⟩ := h; rfl) | (obtain ⟨_, _, _, _, _, _, _, _, rfl, _⟩ := h; rfl) | (obtain ⟨_, _, _, _, _, _, _, _, _, rfl, _⟩ := h; rfl) | (obtain ⟨_, _, _, _, _, _, _, _, _, _, rfl, _⟩ := h; rfl) | (obtain ⟨_, _, _, _, _, _, _, _, _, _, _, rfl, _⟩ := h; rfl) | (obtain ⟨_, _, _, _, _, _, _, _, _, _, _, _, rfl, _⟩ := h; rfl) | (obtain ⟨_, _, _, _, _, _, _, _, _, _, _, _, _, rfl, _⟩ := h; rfl) | (obtain ⟨_, _, _, _, _, _, _, _, _, _, _, _, _, _, rfl, _⟩ := h; rfl) | (obtain ⟨_, _, _, _, _, _, _, _, _, _, _, _, _, _, _, rfl, _⟩ := h; rfl) | (obtain ⟨_, _, _, _, _, _, _, _, _, _, _, _, _, _, _, _, rfl, _⟩ := h; rfl) | (obtain ⟨_, _, _, _, _, _, _, _, _, _, _, _, _, _, _, _, _, rfl, _⟩ := h; rfl) | (obtain ⟨_, _, _, _, _, _, _, _, _, _, _, _, _, _, _, _, _, _, rfl, _⟩ := h; rfl) | (obtain ⟨_, _, _, _, _, _, _, _, _, _, _, _, _, _, _, _, _, _, _, rfl, _⟩ := h; rfl) | (obtain ⟨_, _, _, _, _, _, _, _, _, _, _, _, _, _, _, _, _, _, _, _, rfl, _⟩ := h; rfl) | (obtain ⟨_, _, _, _, _, _, _, _, _, _, _, _, _, _, _, _, _, _, _, _, _, rfl, _⟩ := h; rfl) | (obtain ⟨_, _, _, _, _, _, _, _, _, _, _, _, _, _, _, _, _, _, _, _, _, _, rfl, _⟩ := h; rfl) | (obtain ⟨_, _, _, _, _, _, _, _, _, _, _, _, _, _, _, _, _, _, _, _, _, _, _, rfl, _⟩ := h; rfl)
  · obtain ⟨t, a, b, c, d, rfl, ht, ba, bb, bc, bd, q⟩ := h
    refine ⟨_, (pss_cons (ps_set (i := 1) sc_l_turns.nd rfl (.inl rfl) (pe_call G_l_common (hr.mono (by decide)) (by rfl) g_l_common k_l_common b_l_common .nil pass0 (pa_cons (pe_call G_l_hessian (hr.mono (by decide)) (by rfl) g_l_hessian k_l_hessian b_l_hessian .nil pass0 (pa_cons (pv 0) pa_nil)) pa_nil)))
    (pss_one (ps_ret (pe_cmpR op_eq (pe_op op_mulW (pv 1) (pv 1)) (pe_call G_l_discriminant (hr.mono (by decide)) (by rfl) g_l_discriminant k_l_discriminant b_l_discriminant .nil pass0 (pa_cons (pv 0) pa_nil)) (nomark _))))), ?_⟩
    refine ⟨_, rfl, t, a, b, c, d, rfl, ht, ba, bb, bc, bd, fun x H1 e1 hx => ?_⟩
    refine ⟨x, _, rfl, hx, ?_⟩
    have b9 : B 4 9 := ⟨by decide, by decide⟩
    have b3 : B 2 3 := ⟨by decide, by decide⟩
    have ex : ∀ k : Int, True := fun _ => trivial
    have gB : ∃ n, 0 < n ∧ n ≤ 900 ∧ gcdL [h0 a b c d, h1 a b c d, h2 a b c d] < 2 ^ n := by
      have bh0 : B 900 (h0 a b c d) := by
        unfold h0
        exact (B.less (n := 850) ((B.mul bb bb).mono (by decide)) ((B.mul (B.mul b3 ba) bc).mono (by decide))).mono (by decide)
      have bh1 : B 900 (h1 a b c d) := by
        unfold h1
        exact (B.less (n := 850) ((B.mul bb bc).mono (by decide)) ((B.mul (B.mul b9 ba) bd).mono (by decide))).mono (by decide)
      have bh2 : B 900 (h2 a b c d) := by
        unfold h2
        exact (B.less (n := 850) ((B.mul bc bc).mono (by decide)) ((B.mul (B.mul b3 bb) bd).mono (by decide))).mono (by decide)
      refine ⟨900, by decide, by decide, ?_⟩
      have z : ∀ (x : Nat) (n : Int), x < 2 ^ 900 → B 900 n → Nat.gcd x n.natAbs < 2 ^ 900 := fun x n hx hn => by
        rcases Nat.eq_zero_or_pos n.natAbs with y | y
        · rw [y, Nat.gcd_zero_right]; exact hx
        · exact Nat.lt_of_le_of_lt (Nat.gcd_le_right _ y) hn.1
      exact z _ _ (z _ _ (z 0 _ (Nat.two_pow_pos _) bh0) bh1) bh2
    obtain ⟨n, n0, n9, gl⟩ := gB
    have bg : B n (gcdL [h0 a b c d, h1 a b c d, h2 a b c d] : Int) := ⟨by rw [Int.natAbs_natCast]; exact gl, n0⟩
    refine ⟨_, rfl, _, rfl, _, _, rfl, rfl, mulB bg bg (by omega), ?_⟩
    refine ⟨_, rfl, t, a, b, c, d, rfl, Ex0.ti e1 ht, ba, bb, bc, bd, rfl, ?_⟩
    rw [deI]
    exact q H1 e1
theorem ok_l_right (T : Txt K mg C_Form C_Double) : Def P w K mg base 10 "_law_right" ["_law_cask_here"] (sp_l_right K C_Form C_Double) := by
  obtain ⟨f_, fd_, g_, F_⟩ := T.d_l_right
  obtain ⟨p_Double_content, f_Double_content, fd_Double_content, R_Double_content, b_Double_content, G_Double_content⟩ := (ok_Double_content (P := P) (w := w) (base := base) T)
  obtain ⟨p_Form___eq__, f_Form___eq__, fd_Form___eq__, R_Form___eq__, b_Form___eq__, G_Form___eq__⟩ := (ok_Form___eq__ (P := P) (w := w) (base := base) T)
  obtain ⟨p_Form___init__, f_Form___init__, fd_Form___init__, R_Form___init__, b_Form___init__, G_Form___init__⟩ := (ok_Form___init__ (P := P) (w := w) (base := base) T)
  obtain ⟨p_Form_coefficients, f_Form_coefficients, fd_Form_coefficients, R_Form_coefficients, b_Form_coefficients, G_Form_coefficients⟩ := (ok_Form_coefficients (P := P) (w := w) (base := base) T)
  obtain ⟨p_Form_discriminant, f_Form_discriminant, fd_Form_discriminant, R_Form_discriminant, b_Form_discriminant, G_Form_discriminant⟩ := (ok_Form_discriminant (P := P) (w := w) (base := base) T)
  obtain ⟨p_Form_hessian, f_Form_hessian, fd_Form_hessian, R_Form_hessian, b_Form_hessian, G_Form_hessian⟩ := (ok_Form_hessian (P := P) (w := w) (base := base) T)
  obtain ⟨p_Form_led, f_Form_led, fd_Form_led, R_Form_led, b_Form_led, G_Form_led⟩ := (ok_Form_led (P := P) (w := w) (base := base) T)
  obtain ⟨p_Form_times, f_Form_times, fd_Form_times, R_Form_times, b_Form_times, G_Form_times⟩ := (ok_Form_times (P := P) (w := w) (base := base) T)
  obtain ⟨f_l_change, fd_l_change, g_l_change, k_l_change, b_l_change, G_l_change⟩ := (ok_l_change (P := P) (w := w) (base := base) T)
  obtain ⟨f_l_discriminant, fd_l_discriminant, g_l_discriminant, k_l_discriminant, b_l_discriminant, G_l_discriminant⟩ := (ok_l_discriminant (P := P) (w := w) (base := base) T)
  obtain ⟨f_l_middle, fd_l_middle, g_l_middle, k_l_middle, b_l_middle, G_l_middle⟩ := (ok_l_middle (P := P) (w := w) (base := base) T)
  obtain ⟨f_l_tap, fd_l_tap, g_l_tap, k_l_tap, b_l_tap, G_l_tap⟩ := (ok_l_tap (P := P) (w := w) (base := base) T)
  obtain ⟨f_l_turning, fd_l_turning, g_l_turning, k_l_turning, b_l_turning, G_l_turning⟩ := (ok_l_turning (P := P) (w := w) (base := base) T)
  obtain ⟨f_l_turns, fd_l_turns, g_l_turns, k_l_turns, b_l_turns, G_l_turns⟩ := (ok_l_turns (P := P) (w := w) (base := base) T)
  obtain ⟨f_is_turning, fd_is_turning, g_is_turning, k_is_turning, b_is_turning, G_is_turning⟩ := (ok_is_turning (P := P) (w := w) (base := base) T)
  obtain ⟨f_turning_form, fd_turning_form, g_turning_form, k_turning_form, b_turning_form, G_turning_form⟩ := (ok_turning_form (P := P) (w := w) (base := base) T)
  refine ⟨f_, fd_, g_, F_.kp, F_.binds (ps := ["_law_cask_here"]) (fun _ _ _ _ _ _ us hl => match us, hl with | [_], _ => rfl), ?_⟩
  refine F_.ok sc_l_right (fun vs H Q E h => ?_) (fun cdv A outer s H vs Q E hr h => ?_)
  · first | (obtain ⟨rfl, _⟩ := h; rfl) | (obtain ⟨_, rfl, _⟩ := h; rfl) | (obtain ⟨_, _, rfl, _⟩ := h; rfl) | (obtain ⟨_, _, _, rfl, _⟩ := h; rfl) | (obtain ⟨_, _, _, _, rfl, _⟩ := h; rfl) | (obtain ⟨_, _, _, _, _, rfl, _⟩ := h; rfl) | (obtain ⟨_, _, _, _, _, _, rfl, _⟩ := h; rfl) | (obtain ⟨_, _, _, _, _, _, _, rfl, _⟩ := h; rfl) | (obtain ⟨_, _, _, _, _, _, _, _, rfl, _⟩ := h; rfl) | (obtain ⟨_, _, _, _, _, _, _, _, _, rfl, _⟩ := h; rfl) | (obtain ⟨_, _, _, _, _, _, _, _, _, _, rfl, _⟩ := h; rfl) | (obtain ⟨_, _, _, _, _, _, _, _, _, _, _, rfl, _⟩ := h; rfl) | (obtain ⟨_, _, _, _, _, _, _, _, _, _, _, _, rfl, _⟩ := h; rfl) | (obtain ⟨_, _, _, _, _, _, _, _, _, _, _, _, _, rfl, _⟩ := h; rfl) | (obtain ⟨_, _, _, _, _, _, _, _, _, _, _, _, _, _, rfl, _⟩ := h; rfl) | (obtain ⟨_, _, _, _, _, _, _, _, _, _, _, _, _, _, _, rfl, _⟩ := h; rfl) | (obtain ⟨_, _, _, _, _, _, _, _, _, _, _, _, _, _, _, _, rfl, _⟩ := h; rfl) | (obtain ⟨_, _, _, _, _, _, _, _, _, _, _, _, _, _, _, _, _, rfl, _⟩ := h; rfl) | (obtain ⟨_, _, _, _, _, _, _, _, _, _, _, _, _, _, _, _, _, _, rfl, _⟩ := h; rfl) | (obtain ⟨_, _, _, _, _, _, _, _, _, _, _, _, _, _, _, _, _, _, _, rfl, _⟩ := h; rfl) | (obtain ⟨_, _, _, _, _, _, _, _, _, _, _, _, _, _, _, _, _, _, _, _, rfl, _⟩ := h; rfl) | (obtain ⟨_, _, _, _, _, _, _, _, _, _, _, _, _, _, _, _, _, _, _, _, _, rfl, _⟩ := h; rfl) | (obtain ⟨_, _, _, _, _, _, _, _, _, _, _, _, _, _, _, _, _, _, _, _, _, _, rfl, _⟩ := h; rfl) | (obtain ⟨_, _, _, _, _, _, _, _, _, _, _, _, _, _, _, _, _, _, _, _, _, _, _, rfl, _⟩ := h; rfl)
  · obtain ⟨c, rfl, hc, q⟩ := h
    refine ⟨_, (Evl.pss_cut (ps_par3 (i := 1) (j := 2) (l := 3) (by rfl) sc_l_right.nd rfl rfl rfl (by decide) (by decide) (by decide) rfl rfl rfl (pa_cons (pe_call G_l_middle (hr.mono (by decide)) (by rfl) g_l_middle k_l_middle b_l_middle .nil pass0 (pa_cons (pv 0) pa_nil)) (pa_cons (pe_call G_l_middle (hr.mono (by decide)) (by rfl) g_l_middle k_l_middle b_l_middle .nil pass0 (pa_cons (pv 0) pa_nil)) (pa_cons (pe_call G_l_change (hr.mono (by decide)) (by rfl) g_l_change k_l_change b_l_change .nil pass0 (pa_cons (pv 0) (pa_cons pe_int pa_nil))) pa_nil))) (by rfl))
    (Evl.pss_cut (ps_par (i := 4) (j := 5) (by rfl) sc_l_right.nd rfl rfl (by decide) rfl rfl (pa_cons (pe_call G_turning_form (hr.mono (by decide)) (by rfl) g_turning_form k_turning_form b_turning_form .nil pass0 (pa_cons (pv 1) (pa_cons (pv 2) pa_nil))) (pa_cons (pe_op op_add (pe_op op_sub (pe_op op_mulW (pv 2) (pv 2)) (pe_op op_mulW (pe_op op_mulW pe_int (pv 1)) (pv 2))) (pe_op op_mulW (pe_op op_mulW pe_int (pv 1)) (pv 1))) pa_nil)) (by rfl))
    (Evl.pss_cut (ps_if (PW.pt (pw_or (pt_cmpR (op_neD hr.units) (pe_prop (pv 4) T.cl_Form R_Form_coefficients G_Form_coefficients (hr.mono (by decide)) b_Form_coefficients .nil pass0 (by rfl)) (pe_call G_l_turning (hr.mono (by decide)) (by rfl) g_l_turning k_l_turning b_l_turning .nil pass0 (pa_cons (pv 1) (pa_cons (pv 2) pa_nil))) (nomark _)) (pw_or1 (pt_cmpR op_ne (pe_prop (pv 4) T.cl_Form R_Form_discriminant G_Form_discriminant (hr.mono (by decide)) b_Form_discriminant .nil pass0 (by rfl)) (pe_op op_mulW (pv 5) (pv 5)) (nomark _)))))
      (pss_one (ps_ret pe_bl))
      pss_nil)
    (Evl.pss_cut (ps_set (i := 6) sc_l_right.nd rfl (.inl rfl) (pe_tup (pa_cons (pe_tup (pa_cons pe_int (pa_cons (pe_un un_neg pe_int) pa_nil))) (pa_cons (pe_tup (pa_cons pe_int (pa_cons (pe_un un_neg pe_int) pa_nil))) pa_nil))))
    (Evl.pss_cut (ps_if (PW.pt (pw_or (pt_cmpR (op_neI R_Form___eq__ G_Form___eq__ b_Form___eq__ (hr.mono (by decide)) pass0) (pe_meth (pv 4) T.cl_Form R_Form_led G_Form_led (hr.mono (by decide)) b_Form_led .nil pass0 (pa_cons (pv 6) pa_nil)) (pv 4) (nomark _)) (pw_or (pt_cmpR (op_neI R_Form___eq__ G_Form___eq__ b_Form___eq__ (hr.mono (by decide)) pass0) (pe_meth (pe_meth (pe_meth (pv 4) T.cl_Form R_Form_led G_Form_led (hr.mono (by decide)) b_Form_led .nil pass0 (pa_cons (pv 6) pa_nil)) T.cl_Form R_Form_led G_Form_led (hr.mono (by decide)) b_Form_led .nil pass0 (pa_cons (pv 6) pa_nil)) T.cl_Form R_Form_led G_Form_led (hr.mono (by decide)) b_Form_led .nil pass0 (pa_cons (pv 6) pa_nil)) (pv 4) (nomark _)) (pw_or1 (pt_cmpR op_ne (pe_prop (pe_prop (pv 4) T.cl_Form R_Form_hessian G_Form_hessian (hr.mono (by decide)) b_Form_hessian .nil pass0 (by rfl)) T.cl_Double R_Double_content G_Double_content (hr.mono (by decide)) b_Double_content .nil pass0 (by rfl)) (pe_callB call_abs (by rfl) T.b_abs (by decide +kernel) (pa_cons (pv 5) pa_nil)) (nomark _))))))
      (pss_one (ps_ret pe_bl))
      pss_nil)
    (Evl.pss_cut (ps_if (PW.pt (pw_and (pt_cmpR op_ne (pv 5) pe_int (nomark _)) (pw_and1 (PW.pt (pw_or (pt_not (pt_val (pe_call G_is_turning (hr.mono (by decide)) (by rfl) g_is_turning k_is_turning b_is_turning .nil pass0 (pa_cons (pv 4) pa_nil)))) (pw_or (pt_not (pt_val (pe_call G_is_turning (hr.mono (by decide)) (by rfl) g_is_turning k_is_turning b_is_turning .nil pass0 (pa_cons (pe_meth (pv 4) T.cl_Form R_Form_led G_Form_led (hr.mono (by decide)) b_Form_led .nil pass0 (pa_cons (pv 3) pa_nil)) pa_nil)))) (pw_or1 (pt_not (pt_val (pe_call G_is_turning (hr.mono (by decide)) (by rfl) g_is_turning k_is_turning b_is_turning .nil pass0 (pa_cons (pe_meth (pv 4) T.cl_Form R_Form_times G_Form_times (hr.mono (by decide)) b_Form_times .nil pass0 (pa_cons (pe_un un_neg pe_int) pa_nil)) pa_nil)))))))))))
      (pss_one (ps_ret pe_bl))
      pss_nil)
    (pss_cons (ps_for PassesOwn.never rfl (pi_range1 (by rfl) T.b_range (pa_cons pe_int pa_nil)) (pg_name (i := 6) sc_l_right.nd rfl (.inl rfl))
      (Evl.pss_cut (ps_set (i := 7) sc_l_right.nd rfl (.inl rfl) (pe_callTy call_tuple_of (by rfl) T.b_tuple (by decide +kernel) (pa_cons (pe_lc (own := [("_law_place", 8)]) (g := (gName 8)) rfl sc_l_right.nd (pi_range1 (by rfl) T.b_range (pa_cons pe_int pa_nil)) (blkOk_by (N := N_l_right) (sc := defScope s_l_right) (by decide +kernel)) (fun _ _ _ _ _ => (pg_name (i := 8) sc_l_right.nd rfl (.inl rfl))) (fun _ _ _ _ _ => pts_nil) (fun _ _ _ _ _ => (pe_op op_sub (pe_call G_l_tap (hr.mono (by decide)) (by rfl) g_l_tap k_l_tap b_l_tap .nil pass0 (pa_cons (pv 0) (pa_cons pe_int pa_nil))) pe_int))) pa_nil)))
    (Evl.pss_cut (ps_set (i := 7) sc_l_right.nd rfl (.inl rfl) (pe_ifExp (pt_cmpR op_ne (pe_call G_l_discriminant (hr.mono (by decide)) (by rfl) g_l_discriminant k_l_discriminant b_l_discriminant .nil pass0 (pa_cons (pv 7) pa_nil)) pe_int (nomark _)) (pv 7) (pe_tup (pa_cons pe_int (pa_cons pe_int (pa_cons pe_int (pa_cons pe_int pa_nil)))))))
    (pss_one (ps_if (PW.pt (pw_or (pt_cmpR op_ne (pe_call G_is_turning (hr.mono (by decide)) (by rfl) g_is_turning k_is_turning b_is_turning .nil pass0 (pa_cons (pe_make R_Form___init__ G_Form___init__ (hr.mono (by decide)) (by rfl) T.g_Form b_Form___init__ .nil pass0 (pa_cons (pv 7) pa_nil)) pa_nil)) (pe_call G_l_turns (hr.mono (by decide)) (by rfl) g_l_turns k_l_turns b_l_turns .nil pass0 (pa_cons (pv 7) pa_nil)) (nomark _)) (pw_or1 (pt_cmpR op_ne (pe_call G_is_turning (hr.mono (by decide)) (by rfl) g_is_turning k_is_turning b_is_turning .nil pass0 (pa_cons (pe_meth (pe_make R_Form___init__ G_Form___init__ (hr.mono (by decide)) (by rfl) T.g_Form b_Form___init__ .nil pass0 (pa_cons (pv 7) pa_nil)) T.cl_Form R_Form_led G_Form_led (hr.mono (by decide)) b_Form_led .nil pass0 (pa_cons (pv 3) pa_nil)) pa_nil)) (pe_call G_l_turns (hr.mono (by decide)) (by rfl) g_l_turns k_l_turns b_l_turns .nil pass0 (pa_cons (pv 7) pa_nil)) (nomark _)))))
      (pss_one (ps_ret pe_bl))
      pss_nil)))))
    (pss_one (ps_ret pe_bl))))))))), ?_⟩
    refine ⟨fun σ H' => ∃ (a b : Int) (x : Addr) (p q' r s' : Int), σ = [some (.ref c), some (.int a), some (.int b), some (.ref x), none, none, none, none, none] ∧ Fv c H H' ∧ T4 H' x p q' r s' ∧ Gd 3 p q' r s' ∧ a.natAbs ≤ 1000000000 ∧ b.natAbs ≤ 1000000000, ?_, ?_⟩
    · refine ⟨_, rfl, c, rfl, hc, fun a H1 ha e1 => ?_⟩
      refine ⟨_, rfl, c, rfl, e1.1, fun b H2 hb e2 => ?_⟩
      have f2 := e1.trans e2
      refine ⟨_, rfl, c, 3, rfl, f2.1, by decide, fun x p q' r s' H3 e3 hx hg => ?_⟩
      exact ⟨_, _, _, rfl, a, b, x, p, q', r, s', rfl, f2.trans e3, hx, hg, ha, hb⟩
    rintro σ H1 ⟨a, b, x, p, q', r, s', rfl, f1, hx, hg, ha, hb⟩
    have ba : B 31 a := ⟨by omega, by decide⟩
    have bb : B 31 b := ⟨by omega, by decide⟩
    have sa : Short a := ⟨by omega, by omega⟩
    have sb : Short b := ⟨by omega, by omega⟩
    have b3 : B 2 3 := ⟨by decide, by decide⟩
    have b9 : B 4 9 := ⟨by decide, by decide⟩
    have bc : B 34 (b - 3 * a) := ⟨by omega, by decide⟩
    have bd : B 34 (-a) := ⟨by omega, by decide⟩
    have ba4 : B 34 a := ba.mono (by decide)
    have bb4 : B 34 b := bb.mono (by decide)
    obtain ⟨v, hv⟩ : ∃ v, v = b * b - 3 * a * b + 9 * a * a := ⟨_, rfl⟩
    have bv : B 80 v := by
      rw [hv]
      exact (B.plus (n := 75) ((B.less (n := 70) ((B.mul bb bb).mono (by decide)) ((B.mul (B.mul b3 ba) bb).mono (by decide))).mono (by decide)) ((B.mul (B.mul b9 ba) ba).mono (by decide))).mono (by decide)
    obtain ⟨th0, th1, th2⟩ := TurnM.turn_h a b
    have td := TurnM.turn_d a b
    rw [← hv] at th0 th1 th2 td
    refine ⟨fun σ H' => ∃ z : Addr, σ = [some (.ref c), some (.int a), some (.int b), some (.ref x), some (.ref z), some (.int v), none, none, none] ∧ Ex0 H1 H' ∧ FormAt C_Form H' z [a, b, b - 3 * a, -a], ?_, ?_⟩
    · refine ⟨_, rfl, _, rfl, a, b, rfl, sa, sb, fun z H2 e2 hz => ?_⟩
      refine ⟨_, rfl, _, rfl, _, _, rfl, rfl, mulB bb bb (by decide), _, rfl, _, _, rfl, rfl, mulB b3 ba (by decide), _, rfl, _, _, rfl, rfl, mulB (B.mul b3 ba) bb (by decide), _, _, rfl, rfl, _, rfl, _, _, rfl, rfl, mulB b9 ba (by decide), _, rfl, _, _, rfl, rfl, mulB (B.mul b9 ba) ba (by decide), _, _, rfl, rfl, ?_⟩
      refine ⟨_, _, rfl, z, ?_, e2, hz⟩
      rw [hv]
      rfl
    rintro σ H2 ⟨z, rfl, e2, hz⟩
    obtain ⟨dz, tz, hz1, hz2⟩ := id hz
    refine ⟨fun σ H' => σ = [some (.ref c), some (.int a), some (.int b), some (.ref x), some (.ref z), some (.int v), none, none, none] ∧ Ex0 H2 H', ?_, ?_⟩
    · refine ⟨_, rfl, z, dz, _, rfl, hz1, z, _, rfl, hz, fun t ht => ?_⟩
      refine ⟨_, rfl, _, rfl, a, b, rfl, ba.mono (by decide), bb.mono (by decide), fun u H3 e3 hu => ?_⟩
      refine ⟨.tuple ([a, b, b - 3 * a, -a].map .int), .tuple ([a, b, b - 3 * a, -a].map .int), .tup (SqT.of (Ex0.ti e3 ht)) (dp_ints _), .tup (SqT.of hu) (dp_ints _), shaped_tints _, shaped_tints _, _, rfl, ?_⟩
      rw [PyData.eqv, eqv_ints, decide_eq_true rfl]
      refine iteF ?_
      refine ⟨_, rfl, z, dz, _, rfl, Ex0.ap e3 hz1, z, _, _, _, _, rfl, Ex0.fo e3 hz, ba.mono (by decide), bb.mono (by decide), bc.mono (by decide), bd.mono (by decide), ?_⟩
      refine ⟨_, rfl, _, rfl, _, _, rfl, rfl, mulB bv bv (by decide), rfl, _, rfl, ndF (congrArg V.int td) ⟨rfl, e3⟩⟩
    rintro σ H3 ⟨rfl, e3⟩
    refine ⟨fun σ H' => ∃ u : Addr, σ = [some (.ref c), some (.int a), some (.int b), some (.ref x), some (.ref z), some (.int v), some (.ref u), none, none] ∧ Ex0 H3 H' ∧ T4 H' u 0 (-1) 1 (-1), ?_, ?_⟩
    · refine ⟨_, rfl, sl2, fun t1 n1 => ⟨_, rfl, sl2, fun t2 n2 => ⟨sl2, fun u nu => ?_⟩⟩⟩
      have w := t4_new n1 n2 nu
      exact ⟨u, rfl, w.1, w.2⟩
    rintro σ H4 ⟨u, rfl, e4, hu⟩
    have hz4 := Ex0.fo (e3.trans e4) hz
    have ch : ChOk 0 (-1) 1 (-1) := ⟨⟨by decide, by decide⟩, ⟨by decide, by decide⟩, ⟨by decide, by decide⟩, ⟨by decide, by decide⟩, .inl (by decide)⟩
    have k1 : B 1000 a := ba.mono (by decide)
    have k2 : B 1000 b := bb.mono (by decide)
    have k3 : B 1000 (b - 3 * a) := bc.mono (by decide)
    have k4 : B 1000 (-a) := bd.mono (by decide)
    refine ⟨fun σ H' => σ = [some (.ref c), some (.int a), some (.int b), some (.ref x), some (.ref z), some (.int v), some (.ref u), none, none] ∧ Ex0 H4 H', ?_, ?_⟩
    · obtain ⟨d4, t4, g1, g2⟩ := id hz4
      refine ⟨_, rfl, z, d4, _, rfl, g1, rfl, _, rfl, z, u, _, _, _, _, _, _, _, _, rfl, hz4, hu, k1, k2, k3, k4, ch, fun y H5 e5 hy => ?_⟩
      rw [turn_led] at hy
      obtain ⟨d5, t5, m1, m2⟩ := id hy
      have hz5 := Ex0.fo e5 hz4
      refine ⟨_, rfl, y, d5, _, _, rfl, m1, ty_ins T.ty_Form T.cl_Form (Ex0.ap e5 g1), first_self, y, z, _, _, rfl, hy, hz5, _, rfl, _, rfl, ?_⟩
      rw [decide_eq_true rfl]
      refine iteF ?_
      refine ⟨_, rfl, z, d4, _, rfl, Ex0.ap e5 g1, rfl, _, rfl, z, u, _, _, _, _, _, _, _, _, rfl, hz5, Ex0.q4 e5 hu, k1, k2, k3, k4, ch, fun y1 H6 e6 hy1 => ?_⟩
      rw [turn_led] at hy1
      have e56 := e5.trans e6
      obtain ⟨d6, t6, m3, m4⟩ := id hy1
      refine ⟨y1, d6, _, rfl, m3, rfl, _, rfl, y1, u, _, _, _, _, _, _, _, _, rfl, hy1, Ex0.q4 e56 hu, k1, k2, k3, k4, ch, fun y2 H7 e7 hy2 => ?_⟩
      rw [turn_led] at hy2
      have e57 := e56.trans e7
      obtain ⟨d7, t7, m5, m6⟩ := id hy2
      refine ⟨y2, d7, _, rfl, m5, rfl, _, rfl, y2, u, _, _, _, _, _, _, _, _, rfl, hy2, Ex0.q4 e57 hu, k1, k2, k3, k4, ch, fun y3 H8 e8 hy3 => ?_⟩
      rw [turn_led] at hy3
      have e58 := e57.trans e8
      obtain ⟨d8, t8, m7, m8⟩ := id hy3
      refine ⟨_, rfl, y3, d8, _, _, rfl, m7, ty_ins T.ty_Form T.cl_Form (Ex0.ap e58 g1), first_self, y3, z, _, _, rfl, hy3, Ex0.fo e58 hz4, _, rfl, _, rfl, ?_⟩
      rw [decide_eq_true rfl]
      refine iteF ?_
      refine ⟨_, rfl, z, d4, _, rfl, Ex0.ap e58 g1, z, _, _, _, _, rfl, Ex0.fo e58 hz4, k1, k2, k3, k4, fun w H9 e9 hw => ?_⟩
      rw [th0, th1, th2] at hw
      obtain ⟨dw', tw, w1, w2⟩ := id hw
      refine ⟨w, dw', _, rfl, w1, w, _, rfl, hw, _, rfl, v, rfl, ?_⟩
      have ab : (if v < 0 then -v else v) = (v.natAbs : Int) := by
        by_cases h : v < 0
        · rw [if_pos h]; omega
        · rw [if_neg h]; omega
      rw [ab, gcd_same]
      exact ⟨rfl, _, rfl, ndF rfl ⟨rfl, e58.trans e9⟩⟩
    rintro σ H5 ⟨rfl, e5⟩
    have hz5 := Ex0.fo e5 hz4
    have hx5 := Ex0.q4 (((e2.trans e3).trans e4).trans e5) hx
    obtain ⟨bp, bq, br, bs⟩ := hg.b3
    have gok : ChOk p q' r s' := (hg.mono (by decide)).ok
    refine ⟨fun σ H' => σ = [some (.ref c), some (.int a), some (.int b), some (.ref x), some (.ref z), some (.int v), some (.ref u), none, none] ∧ Ex0 H5 H', ?_, ?_⟩
    · refine ⟨_, rfl, rfl, _, rfl, iteEn (fun hv0 => ?_) (fun _ => ⟨rfl, Ex0.refl _⟩)⟩
      have dne : fdisc a b (b - 3 * a) (-a) ≠ 0 := by
        rw [td]
        exact Int.mul_ne_zero hv0 hv0
      have gg : ((gcdL [v, v, v] : Nat) : Int) * (gcdL [v, v, v] : Nat) = v * v := by rw [gcd_same]; exact Int.natAbs_mul_self
      refine ⟨_, rfl, z, _, _, _, _, rfl, hz5, ba.mono (by decide), bb.mono (by decide), bc.mono (by decide), bd.mono (by decide), dne, fun H6 e6 => ⟨_, rfl, ?_⟩⟩
      rw [th0, th1, th2, td, decide_eq_true gg]
      refine iteF ?_
      obtain ⟨d5, t5, m1, m2⟩ := id (Ex0.fo e6 hz5)
      refine ⟨_, rfl, z, d5, _, rfl, m1, rfl, _, rfl, z, x, _, _, _, _, p, q', r, s', rfl, Ex0.fo e6 hz5, Ex0.q4 e6 hx5, k1, k2, k3, k4, gok, fun y H7 e7 hy => ?_⟩
      obtain ⟨fh, fd⟩ := fled_turn a b (b - 3 * a) (-a) p q' r s' hg.2.2.2.2
      have fB := fled_B ba4 bb4 bc bd bp bq br bs hg.2.2.2.2
      have fg := dgcd_led (h0 a b (b - 3 * a) (-a)) (h1 a b (b - 3 * a) (-a)) (h2 a b (b - 3 * a) (-a)) p q' r s' hg.2.2.2.2
      unfold fled at hy fB
      rw [← fh, th0, th1, th2] at fg
      refine ⟨y, _, _, _, _, rfl, hy, fB _ (by simp), fB _ (by simp), fB _ (by simp), fB _ (by simp), by rw [fd]; exact dne, fun H8 e8 => ⟨_, rfl, ?_⟩⟩
      rw [fg, fd, td, decide_eq_true gg]
      refine iteF ?_
      have e68 := (e6.trans e7).trans e8
      obtain ⟨d8, t8, m3, m4⟩ := id (Ex0.fo e68 hz5)
      refine ⟨_, rfl, z, d8, _, rfl, m3, rfl, _, rfl, z, [a, b, b - 3 * a, -a], -3, rfl, Ex0.fo e68 hz5, by show 4 ≤ 1000; decide, ⟨by decide, by decide⟩, fun n hn => ?_, fun y2 H9 e9 hy2 => ?_⟩
      · simp only [List.mem_cons, List.mem_nil_iff, or_false] at hn
        rcases hn with rfl | rfl | rfl | rfl <;> assumption
      have sqa : ∀ x : Int, (x.natAbs : Int) * x.natAbs = x * x := fun x => Int.natAbs_mul_self
      have m9 : ∀ {n : Int}, B 34 n → B 230 (n * -3) := fun h => (B.mul h (show B 2 (-3) from ⟨by decide, by decide⟩)).mono (by decide)
      have cm : ∀ n : Int, n * -3 = -3 * n := fun n => Int.mul_comm _ _
      have ng : ([a, b, b - 3 * a, -a].map fun x => x * -3) = [-3 * a, -3 * b, -3 * (b - 3 * a), -3 * -a] := by simp only [List.map_cons, List.map_nil, cm]
      rw [ng] at hy2
      obtain ⟨nh0, nh1, nh2⟩ := h_mul (-3) a b (b - 3 * a) (-a)
      have nd := disc_mul (-3) a b (b - 3 * a) (-a)
      rw [th0] at nh0
      rw [th1] at nh1
      rw [th2] at nh2
      rw [td] at nd
      have n1 := m9 ba4
      have n2 := m9 bb4
      have n3 := m9 bc
      have n4 := m9 bd
      rw [cm] at n1 n2 n3 n4
      refine ⟨y2, _, _, _, _, rfl, hy2, n1, n2, n3, n4, ?_, fun H10 e10 => ⟨_, rfl, ?_⟩⟩
      · rw [nd]
        exact Int.mul_ne_zero (by decide) (Int.mul_ne_zero hv0 hv0)
      rw [nh0, nh1, nh2, nd, gcd_same, decide_eq_true (show ((-3 * -3 * v : Int).natAbs : Int) * ((-3 * -3 * v : Int).natAbs) = _ from by rw [sqa]; grind)]
      exact iteF ⟨rfl, (e68.trans e9).trans e10⟩
    rintro σ H6 ⟨rfl, e6⟩
    have hx6 := Ex0.q4 e6 hx5
    have f6 : Fv c H H6 := f1.trans (fv_ex f1.1 ((((e2.trans e3).trans e4).trans e5).trans e6))
    refine ⟨_, rfl, by decide, by decide, ?_⟩
    refine for_range (lo := 0) (n := 4) (fun i σ H' => ∃ y6 y7, σ = [some (.ref c), some (.int a), some (.int b), some (.ref x), some (.ref z), some (.int v), y6, y7, none] ∧ Fv c H6 H') ⟨_, _, rfl, Fx.refl f6.1⟩ ?_ ?_
    · rintro i σ H' hi ⟨y6, y7, rfl, e7⟩
      refine ⟨fun σ H'' => ∃ (y6 : Option V) (t : Addr) (a0 b0 c0 d0 : Int), σ = [some (.ref c), some (.int a), some (.int b), some (.ref x), some (.ref z), some (.int v), y6, some (.ref t), none] ∧ Fv c H6 H'' ∧ Ti H'' t [a0, b0, c0, d0] ∧ ∀ n ∈ [a0, b0, c0, d0], n.natAbs ≤ 7, ?_, ?_⟩
      · refine ⟨_, rfl, by decide, by decide, ?_⟩
        refine lcR (fmV c) e7.1 (fun i acc _ => ∃ ns : List Int, acc = ns.map V.int ∧ ns.length = i ∧ ∀ n ∈ ns, n.natAbs ≤ 7) (fun _ _ => ⟨[], rfl, rfl, fun _ h => by cases h⟩) (fun D i acc H3 hD hi e5 hA hlen hp => ?_) (fun D H3 acc hD e5 hA hp => ?_)
        · obtain ⟨ns, rfl, hln, hns⟩ := hp
          have hi' : i < 4 := by simpa using hi
          refine ⟨rfl, ?_⟩
          refine ⟨_, rfl, c, 15, rfl, e5.1, by decide, by decide, fun r H4 r0 r1 e6 => ⟨_, _, rfl, rfl, ?_⟩⟩
          refine cs_yes (fmV c) e7.1 hD e5 hA hlen (by omega) e6 ⟨ns ++ [r - 7], by rw [List.map_append]; rfl, by rw [List.length_append, hln]; rfl, fun n hn => ?_⟩
          rcases List.mem_append.mp hn with h | h
          · exact hns n h
          · have : n = r - 7 := by simpa using h
            omega
        · obtain ⟨ns, rfl, hln, hns⟩ := hp
          refine ⟨D, _, rfl, .inl ⟨SqL.of hA, fun p np => ?_⟩⟩
          obtain ⟨A1, A2, A3, A4, rfl⟩ : ∃ A1 A2 A3 A4, ns = [A1, A2, A3, A4] := by
            have hln' : ns.length = 4 := by simpa using hln
            match ns, hln' with
            | [x, y, z, w], _ => exact ⟨x, y, z, w, rfl⟩
          exact ⟨_, p, A1, A2, A3, A4, rfl, (e7.trans e5).trans (fv_new e5.1 np), upd_same, hns⟩
      rintro σ Ha ⟨y6, t, a0, b0, c0, d0, rfl, ea, ht, hs⟩
      have small : ∀ {n : Int} {k : Nat}, n.natAbs ≤ 7 → 4 ≤ k → B k n := fun h hk => ⟨Nat.lt_of_le_of_lt h (Nat.lt_of_lt_of_le (by decide : 7 < 2 ^ 4) (Nat.pow_le_pow_right (by decide) hk)), by omega⟩
      refine ⟨fun σ H'' => ∃ (y6 : Option V) (t : Addr) (a0 b0 c0 d0 : Int), σ = [some (.ref c), some (.int a), some (.int b), some (.ref x), some (.ref z), some (.int v), y6, some (.ref t), none] ∧ Fv c H6 H'' ∧ Ti H'' t [a0, b0, c0, d0] ∧ (∀ n ∈ [a0, b0, c0, d0], n.natAbs ≤ 7) ∧ fdisc a0 b0 c0 d0 ≠ 0, ?_, ?_⟩
      · refine ⟨_, rfl, t, a0, b0, c0, d0, rfl, ht, small (hs _ (by simp)) (by decide), small (hs _ (by simp)) (by decide), small (hs _ (by simp)) (by decide), small (hs _ (by simp)) (by decide), rfl, _, rfl, iteEn (fun h => ?_) (fun h => ?_)⟩
        · exact ⟨_, rfl, y6, t, a0, b0, c0, d0, rfl, ea, ht, hs, h⟩
        · refine ⟨sl4, fun t' nt => ?_⟩
          exact ⟨y6, t', 1, 1, 2, 1, rfl, ea.trans (fv_new ea.1 nt), upd_same, by decide, by decide⟩
      clear ht hs ea t a0 b0 c0 d0 Ha
      rintro σ Ha ⟨y6, t, a0, b0, c0, d0, rfl, ea, ht, hs, hd0⟩
      have hxa := t4_fv f6.1 ea hx6
      have s1 := hs a0 (by simp)
      have s2 := hs b0 (by simp)
      have s3 := hs c0 (by simp)
      have s4 := hs d0 (by simp)
      have sn : ∀ n ∈ [a0, b0, c0, d0], Short n := fun n h => by have := hs n h; exact ⟨by omega, by omega⟩
      refine ⟨_, rfl, fun y dy ny ndy _ => ?_⟩
      refine ⟨y, dy, t, [a0, b0, c0, d0], rfl, upd_same, made_at ny ndy ht, rfl, sn, fun Hb eb hb' => ⟨rfl, ?_⟩⟩
      obtain ⟨eb', hy⟩ := fo_made ny ndy ht eb hb'
      refine ⟨y, _, _, _, _, rfl, hy, small s1 (by decide), small s2 (by decide), small s3 (by decide), small s4 (by decide), hd0, fun Hc ec => ?_⟩
      have ebc := eb'.trans ec
      refine ⟨_, rfl, t, _, _, _, _, rfl, Ex0.ti ebc ht, small s1 (by decide), small s2 (by decide), small s3 (by decide), small s4 (by decide), fun Hd ed => ?_⟩
      have ebd := ebc.trans ed
      refine ⟨rfl, _, rfl, ndF rfl ?_⟩
      have htd := Ex0.ti ebd ht
      refine ⟨_, rfl, fun y2 dy2 ny2 ndy2 _ => ?_⟩
      refine ⟨y2, dy2, t, [a0, b0, c0, d0], rfl, upd_same, made_at ny2 ndy2 htd, rfl, sn, fun He ee he' => ⟨rfl, ?_⟩⟩
      obtain ⟨ee', hy2⟩ := fo_made ny2 ndy2 htd ee he'
      have ebe := ebd.trans ee'
      obtain ⟨d9, t9, m1, m2⟩ := id hy2
      refine ⟨y2, d9, _, rfl, m1, rfl, _, rfl, y2, x, _, _, _, _, p, q', r, s', rfl, hy2, Ex0.q4 ebe hxa, small s1 (by decide), small s2 (by decide), small s3 (by decide), small s4 (by decide), gok, fun y3 Hf ef hy3 => ?_⟩
      obtain ⟨fh, fd⟩ := fled_turn a0 b0 c0 d0 p q' r s' hg.2.2.2.2
      have fB := fled_B (small s1 (by decide)) (small s2 (by decide)) (small s3 (by decide)) (small s4 (by decide)) bp bq br bs hg.2.2.2.2
      have fg := dgcd_led (h0 a0 b0 c0 d0) (h1 a0 b0 c0 d0) (h2 a0 b0 c0 d0) p q' r s' hg.2.2.2.2
      unfold fled at hy3 fB
      rw [← fh] at fg
      refine ⟨y3, _, _, _, _, rfl, hy3, fB _ (by simp), fB _ (by simp), fB _ (by simp), fB _ (by simp), by rw [fd]; exact hd0, fun Hg eg => ?_⟩
      rw [fg, fd]
      have ebg := (ebe.trans ef).trans eg
      refine ⟨_, rfl, t, _, _, _, _, rfl, Ex0.ti ebg ht, small s1 (by decide), small s2 (by decide), small s3 (by decide), small s4 (by decide), fun Hh eh => ?_⟩
      refine ⟨rfl, _, rfl, ndF rfl ?_⟩
      exact ⟨_, _, rfl, ea.trans (fv_ex ea.1 (ebg.trans eh))⟩
    · rintro σ H' ⟨y6, y7, rfl, e7⟩
      exact q _ (f6.trans e7)
end
end TF
set_option Elab.async false
set_option linter.all false
set_option maxRecDepth 100000
namespace Hd
open PySem PySem.Spec PyProof.Rows L2 Fr
open He (ga ma eqO eqO_ok ba)
def pa (K : PySem.W.Frag) (C : Addr) (m : Str) : Addr := match PySem.W.recIn K (ma K C m) "property" with
  | some (.ref g :: _) => g
  | _ => 0
def itA (K : PySem.W.Frag) (a : Addr) (i : Nat) : Addr := match K.lookup a with
  | some ⟨_, _, .seq its _, _⟩ => (match its[i]? with
    | some (.ref b) => b
    | _ => 0)
  | _ => 0
structure Dd where
  at_ : PySem.W.Frag → Addr
  name : Str
  qual : Str
  st : Stmt
  dfl : List V := []
def fnA (K : PySem.W.Frag) (a : Addr) : He.FnW := match K.lookup a with
  | some ⟨_, _, .func fd, _⟩ => some (fd.name, fd.qualname, fd.params, fd.body, fd.scope, fd.globals, fd.closure, fd.builtins)
  | _ => none
def Dd.val (d : Dd) : He.FnW := some (d.name, d.qual, defArgs d.st, .stmts (defBody d.st), defScope d.st, mainGlobals, [], builtinsNs)
def Dd.ok (K : PySem.W.Frag) (d : Dd) : Bool := PySem.W.keepIn K (.ref (d.at_ K)) && (match K.lookup (d.at_ K) with
  | some ⟨_, _, .func fd, _⟩ => PySem.W.codeIn K fd.code d.qual && He.dflB K fd.defaults d.dfl
  | _ => false)
theorem Dd.funD {K : PySem.W.Frag} {d : Dd} (e : fnA K (d.at_ K) = d.val) (c : d.ok K = true) : ∃ fd, FunD K d.name d.qual (defArgs d.st) (defBody d.st) (defScope d.st) d.dfl [] (d.at_ K) fd := by
  obtain ⟨kp, c2⟩ := ba c
  unfold fnA at e
  cases hk : K.lookup (d.at_ K) with
  | none => rw [hk] at c2; cases c2
  | some o =>
    obtain ⟨oc, od, dt, osl⟩ := o
    rw [hk] at c2 e
    cases dt with
    | func fd =>
      obtain ⟨n1, n2, n3, n4, n5, n6, n7, n8, n9, n10, n11, n12, n13, n14, n15⟩ := fd
      have e0 : (some (n1, n2, n3, n4, n5, n6, n7, n15) : He.FnW) = some (d.name, d.qual, defArgs d.st, .stmts (defBody d.st), defScope d.st, mainGlobals, [], builtinsNs) := e
      simp only [Option.some.injEq, Prod.mk.injEq] at e0
      obtain ⟨h1, h2, h3, h4, h5, h6, h7, h8⟩ := e0
      subst h1 h2 h3 h4 h5 h6 h7 h8
      obtain ⟨k1, k2⟩ := ba (show (PySem.W.codeIn K n13 d.qual && He.dflB K n8 d.dfl) = true from c2)
      exact ⟨_, ⟨oc, od, n8, n9, n10, n11, n12, n13, n14, osl, rfl, hk, k1, He.dflB_ok k2, .inl rfl⟩, kp⟩
    | _ => cases c2
theorem fun_of {K : PySem.W.Frag} {x q : Str} {st : Stmt} {f : Addr} {fd : FuncData} (F : FunD K x q (defArgs st) (defBody st) (defScope st) [] [] f fd) : Fun K x q st f fd := by
  obtain ⟨⟨oc, od, dV, kV, doc, pm, an, cdv, ct, osl, e1, e2, e3, e4, e5⟩, kp⟩ := F
  rcases e4 with ⟨_, rfl⟩ | ⟨h, _⟩
  · exact ⟨⟨oc, od, kV, doc, pm, an, cdv, ct, osl, e1, e2, e3⟩, kp⟩
  · exact absurd rfl h
def refsP (o : Obj) : List Addr := match o.data with
  | .seq its _ => its.toList.flatMap He.refV
  | .dict es _ => es.toList.flatMap fun e => He.refV e.val
  | .func fd => He.refV fd.code ++ He.refV fd.defaults
  | .cls cd => [cd.ns]
  | .fields vs => (match o.cls with
    | .type c => (match c == "property" with
      | true => vs.toList.flatMap He.refV
      | false => [])
    | _ => [])
  | _ => []
def nxt (g : Addr → Option Obj) (as : List Addr) : List Addr := as.flatMap fun a => match g a with
  | some o => refsP o
  | none => []
def asM (g : Addr → Option Obj) : Nat → List Addr → List Addr
  | 0, as => as
  | n + 1, as => as ++ asM g n (nxt g as)
abbrev Fb : Type := PySem.W.Frag → Bool
abbrev AlM : Type := Bool × List He.FnW
def obsM (fa : List Fb) (fn : List Dd) (K : PySem.W.Frag) : AlM := ((fa.all fun f => f K) && fn.all fun d => d.ok K, fn.map fun d => fnA K (d.at_ K))
def valM (fn : List Dd) : AlM := (true, fn.map Dd.val)
def SaysM (fa : List Fb) (fn : List Dd) (K : PySem.W.Frag) : Prop := obsM fa fn K = valM fn
def obsMG (n : Nat) (fa : List Fb) (fn : List Dd) (g : Addr → Option Obj) : AlM := obsM fa fn (He.frG g (asM g n [mainGlobals]))
def hookM (n : Nat) (fa : List Fb) (fn : List Dd) : PySem.W.Hook where
  α := AlM
  obs := fun s => obsMG n fa fn s.heap.get?
  val := fun _ => valM fn
  says := fun _ h => ∃ K : PySem.W.Frag, K.In h ∧ SaysM fa fn K
  of := fun _ _ e => ⟨_, He.frG_in, e⟩
  keeps := fun _ _ _ ⟨K, hK, c⟩ k => ⟨K, PySem.W.Frag.In.keeps hK k, c⟩
theorem obsMG_eq {n : Nat} {fa : List Fb} {fn : List Dd} {g : Addr → Option Obj} {s : Shared} (h : ∀ a, g a = s.heap.get? a) : obsMG n fa fn g = (hookM n fa fn).obs s := by
  have e : g = s.heap.get? := funext h
  rw [e] <;> rfl
section
variable {fa : List Fb} {fn : List Dd} {K : PySem.W.Frag}
theorem SaysM.fact (c : SaysM fa fn K) (i : Nat) {f : Fb} (h : fa[i]? = some f := by rfl) : f K = true := by
  have c1 : ((fa.all fun f => f K) && fn.all fun d => d.ok K) = true := congrArg (fun z : AlM => z.1) c
  exact List.all_eq_true.mp (ba c1).1 f (List.mem_of_getElem? h)
theorem SaysM.def_ (c : SaysM fa fn K) (i : Nat) {d : Dd} (h : fn[i]? = some d := by rfl) : ∃ fd, FunD K d.name d.qual (defArgs d.st) (defBody d.st) (defScope d.st) d.dfl [] (d.at_ K) fd := by
  have c1 : ((fa.all fun f => f K) && fn.all fun d => d.ok K) = true := congrArg (fun z : AlM => z.1) c
  have c2 : fn.map (fun d => fnA K (d.at_ K)) = fn.map Dd.val := congrArg (fun z : AlM => z.2) c
  have c3 : (fn.map fun d => fnA K (d.at_ K))[i]? = (fn.map Dd.val)[i]? := by rw [c2]
  rw [List.getElem?_map, List.getElem?_map, h] at c3
  exact Dd.funD (Option.some.inj c3) (List.all_eq_true.mp (ba c1).2 d (List.mem_of_getElem? h))
end
def decO (a b : Option Bool) : Bool := decide (a = b)
theorem decO_ok {a b : Option Bool} (h : decO a b = true) : a = b := of_decide_eq_true h
def bltB (x : Str) (id : String) : Fb := fun K => eqO (PySem.W.nsIn K mainGlobals x) (some (some (.builtin id)))
theorem blt_ok {K : PySem.W.Frag} {h : Heap} {mg : Str → Option Value} (X : K.In h) (G : h.Ns mainGlobals mg) {x : Str} {id : String} (c : bltB x id K = true) : mg x = some (.builtin id) := PySem.W.mg_of X G (eqO_ok c)
def tyB (C : Str) : Fb := fun K => eqO (PySem.W.findIn K (.ref (ga K C)) "__class__") (some (some (.builtin "object.__class__"))) && (eqO (PySem.W.specialIn K (.builtin "object.__class__") "__get__") (some (some (.builtin "getset_descriptor.__get__"))) && (decO (PySem.W.takesIn K (.builtin "object.__class__")) (some true) && decO (PySem.W.mroIn K (ga K C) (.type "object")) (some true)))
theorem ty_ok {K : PySem.W.Frag} {C : Str} (c : tyB C K = true) : TyI K (ga K C) := by
  obtain ⟨c1, c⟩ := ba c
  obtain ⟨c2, c⟩ := ba c
  obtain ⟨c3, c4⟩ := ba c
  exact ⟨eqO_ok c1, eqO_ok c2, decO_ok c3, decO_ok c4⟩
def propB (C m : Str) : Fb := fun K => eqO (PySem.W.findIn K (.ref (ga K C)) m) (some (some (.ref (ma K (ga K C) m)))) && (eqO (PySem.W.specialIn K (.ref (ma K (ga K C) m)) "__get__") (some (some (.builtin "property.__get__"))) && (decO (PySem.W.takesIn K (.ref (ma K (ga K C) m))) (some true) && (match PySem.W.recIn K (ma K (ga K C) m) "property" with
  | some (.ref _ :: _) => true
  | _ => false)))
theorem prop_ok {K : PySem.W.Frag} {C m : Str} (c : propB C m K = true) : PropOf K (ga K C) m (ma K (ga K C) m) (pa K (ga K C) m) := by
  obtain ⟨c1, c⟩ := ba c
  obtain ⟨c2, c⟩ := ba c
  obtain ⟨c3, c4⟩ := ba c
  refine ⟨eqO_ok c1, eqO_ok c2, decO_ok c3, ?_⟩
  unfold pa
  cases hr : PySem.W.recIn K (ma K (ga K C) m) "property" with
  | none => rw [hr] at c4; cases c4
  | some l =>
    rw [hr] at c4
    cases l with
    | nil => cases c4
    | cons v rest =>
      cases v with
      | ref g => exact ⟨rest, rfl⟩
      | _ => cases c4
def eqB (C : Str) : Fb := fun K => eqO (PySem.W.findIn K (.ref (ga K C)) "__eq__") (some (some (.ref (ma K (ga K C) "__eq__")))) && (PySem.W.isFn K (.ref (ma K (ga K C) "__eq__")) && (eqO (PySem.W.findIn K (.ref (ga K C)) "__ne__") (some (some (.builtin "object.__ne__"))) && decO (PySem.W.mroIn K (ga K C) (.type "object")) (some true)))
theorem eq_ok {K : PySem.W.Frag} {C : Str} (c : eqB C K = true) : EqC K (ga K C) (ma K (ga K C) "__eq__") := by
  obtain ⟨c1, c⟩ := ba c
  obtain ⟨c2, c⟩ := ba c
  obtain ⟨c3, c4⟩ := ba c
  exact ⟨eqO_ok c1, c2, eqO_ok c3, decO_ok c4⟩
def callB (C : Str) : Fb := fun K => eqO (PySem.W.findIn K (.ref (ga K C)) "__call__") (some (some (.ref (ma K (ga K C) "__call__")))) && (PySem.W.isFn K (.ref (ma K (ga K C) "__call__")) && PySem.W.fnIn K (ma K (ga K C) "__call__"))
theorem call_ok {K : PySem.W.Frag} {C : Str} (c : callB C K = true) : StX.CallO K (ga K C) (ma K (ga K C) "__call__") := by
  obtain ⟨c1, c⟩ := ba c
  obtain ⟨c2, c3⟩ := ba c
  exact ⟨eqO_ok c1, c2, c3⟩
def binB (C m : Str) : Fb := fun K => eqO (PySem.W.findIn K (.ref (ga K C)) m) (some (some (.ref (ma K (ga K C) m)))) && (PySem.W.isFn K (.ref (ma K (ga K C) m)) && PySem.W.selfFirst K (ga K C))
theorem bin_ok {K : PySem.W.Frag} {C m : Str} (c : binB C m K = true) : PySem.W.findIn K (.ref (ga K C)) m = some (some (.ref (ma K (ga K C) m))) ∧ PySem.W.isFn K (.ref (ma K (ga K C) m)) = true ∧ PySem.W.selfFirst K (ga K C) = true := by
  obtain ⟨c1, c⟩ := ba c
  obtain ⟨c2, c3⟩ := ba c
  exact ⟨eqO_ok c1, c2, c3⟩
def intsB (a : PySem.W.Frag → Addr) (ns : List Int) : Fb := fun K => match K.lookup (a K) with
  | some ⟨.type c, _, .seq its _, _⟩ => decide (c = "tuple") && (decide (its.size ≤ sizeLine) && He.relAll (ns.map V.int) its.toList)
  | _ => false
theorem ints_ok {K : PySem.W.Frag} {a : PySem.W.Frag → Addr} {ns : List Int} (c : intsB a ns K = true) (H : Hp) : SqT K H (a K) (ns.map V.int) := by
  unfold intsB at c
  cases hk : K.lookup (a K) with
  | none => rw [hk] at c; cases c
  | some o =>
    obtain ⟨oc, od, dt, sl⟩ := o
    rw [hk] at c
    cases oc with
    | type t =>
      cases dt with
      | seq its m =>
        obtain ⟨c1, c⟩ := ba c
        obtain ⟨c2, c3⟩ := ba c
        exact .inr ⟨_, its, m, hk, congrArg Value.type (of_decide_eq_true c1), rfl, of_decide_eq_true c2, He.relAll_ok c3⟩
      | _ => cases c
    | _ => cases dt <;> cases c
def refsB (a : PySem.W.Frag → Addr) (n : Nat) : Fb := fun K => match K.lookup (a K) with
  | some ⟨.type c, _, .seq its _, _⟩ => decide (c = "tuple") && (decide (its.size ≤ sizeLine) && He.relAll ((List.range n).map fun i => V.ref (itA K (a K) i)) its.toList)
  | _ => false
theorem refs_ok {K : PySem.W.Frag} {a : PySem.W.Frag → Addr} {n : Nat} (c : refsB a n K = true) (H : Hp) : SqT K H (a K) ((List.range n).map fun i => V.ref (itA K (a K) i)) := by
  unfold refsB at c
  generalize hl : (List.range n).map (fun i => V.ref (itA K (a K) i)) = l at c ⊢
  cases hk : K.lookup (a K) with
  | none => rw [hk] at c; cases c
  | some o =>
    obtain ⟨oc, od, dt, sl⟩ := o
    rw [hk] at c
    cases oc with
    | type t =>
      cases dt with
      | seq its m =>
        obtain ⟨c1, c⟩ := ba c
        obtain ⟨c2, c3⟩ := ba c
        exact .inr ⟨_, its, m, hk, congrArg Value.type (of_decide_eq_true c1), rfl, of_decide_eq_true c2, He.relAll_ok c3⟩
      | _ => cases c
    | _ => cases dt <;> cases c
def foreB (C : Str) (t : String) : Fb := fun K => decO (PySem.W.kitOne K (.type t) (.ref (ga K C))) (some false) && PySem.W.notFirst K (ga K C) (.type t)
theorem fore_ok {K : PySem.W.Frag} {C : Str} {t : String} (c : foreB C t K = true) : PySem.W.kitOne K (.type t) (.ref (ga K C)) = some false ∧ PySem.W.notFirst K (ga K C) (.type t) = true := by
  obtain ⟨c1, c2⟩ := ba c
  exact ⟨decO_ok c1, c2⟩
def foreCB (C D : Str) : Fb := fun K => decO (PySem.W.kitOne K (.ref (ga K D)) (.ref (ga K C))) (some false) && PySem.W.notFirst K (ga K C) (.ref (ga K D))
theorem foreC_ok {K : PySem.W.Frag} {C D : Str} (c : foreCB C D K = true) : PySem.W.kitOne K (.ref (ga K D)) (.ref (ga K C)) = some false ∧ PySem.W.notFirst K (ga K C) (.ref (ga K D)) = true := by
  obtain ⟨c1, c2⟩ := ba c
  exact ⟨decO_ok c1, c2⟩
def fmtB (C : Str) : Fb := fun K => eqO (PySem.W.findIn K (.ref (ga K C)) "__format__") (some (some (.builtin "object.__format__"))) && decO (PySem.W.mroIn K (ga K C) (.type "object")) (some true)
theorem fmt_ok {K : PySem.W.Frag} {C : Str} (c : fmtB C K = true) : PySem.W.findIn K (.ref (ga K C)) "__format__" = some (some (.builtin "object.__format__")) ∧ PySem.W.mroIn K (ga K C) (.type "object") = some true := by
  obtain ⟨c1, c2⟩ := ba c
  exact ⟨eqO_ok c1, decO_ok c2⟩
def xcB (x : Str) (bm : List Value) (newId : String) : Fb := fun K => He.Fa.ok K (.glo x) && (PySem.W.excIn K (ga K x) bm newId && (PySem.W.keepIn K (.ref (ga K x)) && (decO (PySem.W.subIn K (.ref (ga K x)) (.type "BaseException")) (some true) && (decide (PySem.W.typeIn K (.ref (ga K x)) = some (.type "type")) && decO (PySem.W.exmOne K (.ref (ga K x)) (.ref (ga K x))) (some true)))))
theorem xc_ok {K : PySem.W.Frag} {h : Heap} {mg : Str → Option Value} (X : K.In h) (G : h.Ns mainGlobals mg) {x : Str} {bm : List Value} {newId : String} (c : xcB x bm newId K = true) : Xc K mg x bm newId := by
  obtain ⟨c1, c⟩ := ba c
  obtain ⟨c2, c⟩ := ba c
  obtain ⟨c3, c⟩ := ba c
  obtain ⟨c4, c⟩ := ba c
  obtain ⟨c5, c6⟩ := ba c
  exact ⟨He.glo_ok X G c1, c2, c3, decO_ok c4, of_decide_eq_true c5, decO_ok c6⟩
end Hd
namespace TF
open PySem PySem.Spec PyProof.Rows L2 Fr
open K05M (fv fl2 fl3 fdisc)
open K06M
def sp_lawW (K : PySem.W.Frag) : Sp := fun vs H Q _ => ∃ (a : Addr) (ns : List Int), vs = [.ref a] ∧ SqL K H a (ns.map V.int) ∧ ns.length ≤ 63 ∧ ∀ H', Q (.bl true) H'
abbrev sp_law (K : PySem.W.Frag) (_ _ : Addr) : Sp := sp_lawW K
theorem ex_fv {p : Addr} {H H1 H2 : Hp} (e : Ex0 H H1) (hp : H p = none) (f : Fv p H1 H2) : Ex0 H H2 := ⟨trivial, fun b o _ h => f.2 b o (fun z => by unfold Sv at z; rw [z, hp] at h; cases h) (Ex0.ap e h)⟩
section
variable {P : Program} {w : World} {K : PySem.W.Frag} {mg : Str → Option Value} {base : Heap} {C_Form C_Double : Addr}
theorem ok_law0 (T : Txt K mg C_Form C_Double) {f_ : Addr} {fd_ : FuncData} (F_ : Fun K "law" "law" s_law f_ fd_) : FnOk P w K mg base CX0 11 f_ fd_ ["_law_script"] (sp_law K C_Form C_Double) := by
  obtain ⟨p_Form___init__, f_Form___init__, fd_Form___init__, R_Form___init__, b_Form___init__, G_Form___init__⟩ := (ok_Form___init__ (P := P) (w := w) (base := base) T)
  obtain ⟨p_Form_discriminant, f_Form_discriminant, fd_Form_discriminant, R_Form_discriminant, b_Form_discriminant, G_Form_discriminant⟩ := (ok_Form_discriminant (P := P) (w := w) (base := base) T)
  obtain ⟨f_l_cask, fd_l_cask, g_l_cask, k_l_cask, b_l_cask, G_l_cask⟩ := (ok_l_cask (P := P) (w := w) (base := base) T)
  obtain ⟨f_l_right, fd_l_right, g_l_right, k_l_right, b_l_right, G_l_right⟩ := (ok_l_right (P := P) (w := w) (base := base) T)
  obtain ⟨f_is_turning, fd_is_turning, g_is_turning, k_is_turning, b_is_turning, G_is_turning⟩ := (ok_is_turning (P := P) (w := w) (base := base) T)
  obtain ⟨f_turning_form, fd_turning_form, g_turning_form, k_turning_form, b_turning_form, G_turning_form⟩ := (ok_turning_form (P := P) (w := w) (base := base) T)
  refine F_.ok sc_law (fun vs H Q E h => ?_) (fun cdv A outer s H vs Q E hr h => ?_)
  · first | (obtain ⟨rfl, _⟩ := h; rfl) | (obtain ⟨_, rfl, _⟩ := h; rfl) | (obtain ⟨_, _, rfl, _⟩ := h; rfl) | (obtain ⟨_, _, _, rfl, _⟩ := h; rfl) | (obtain ⟨_, _, _, _, rfl, _⟩ := h; rfl) | (obtain ⟨_, _, _, _, _, rfl, _⟩ := h; rfl) | (obtain ⟨_, _, _, _, _, _, rfl, _⟩ := h; rfl) | (obtain ⟨_, _, _, _, _, _, _, rfl, _⟩ := h; rfl) | (obtain ⟨_, _, _, _, _, _, _, _, rfl, _⟩ := h; rfl) | (obtain ⟨_, _, _, _, _, _, _, _, _, rfl, _⟩ := h; rfl) | (obtain ⟨_, _, _, _, _, _, _, _, _, _, rfl, _⟩ := h; rfl) | (obtain ⟨_, _, _, _, _, _, _, _, _, _, _, rfl, _⟩ := h; rfl) | (obtain ⟨_, _, _, _, _, _, _, _, _, _, _, _, rfl, _⟩ := h; rfl) | (obtain ⟨_, _, _, _, _, _, _, _, _, _, _, _, _, rfl, _⟩ := h; rfl) | (obtain ⟨_, _, _, _, _, _, _, _, _, _, _, _, _, _, rfl, _⟩ := h; rfl) | (obtain ⟨_, _, _, _, _, _, _, _, _, _, _, _, _, _, _, rfl, _⟩ := h; rfl) | (obtain ⟨_, _, _, _, _, _, _, _, _, _, _, _, _, _, _, _, rfl, _⟩ := h; rfl) | (obtain ⟨_, _, _, _, _, _, _, _, _, _, _, _, _, _, _, _, _, rfl, _⟩ := h; rfl) | (obtain ⟨_, _, _, _, _, _, _, _, _, _, _, _, _, _, _, _, _, _, rfl, _⟩ := h; rfl) | (obtain ⟨_, _, _, _, _, _, _, _, _, _, _, _, _, _, _, _, _, _, _, rfl, _⟩ := h; rfl) | (obtain ⟨_, _, _, _, _, _, _, _, _, _, _, _, _, _, _, _, _, _, _, _, rfl, _⟩ := h; rfl) | (obtain ⟨_, _, _, _, _, _, _, _, _, _, _, _, _, _, _, _, _, _, _, _, _, rfl, _⟩ := h; rfl) | (obtain ⟨_, _, _, _, _, _, _, _, _, _, _, _, _, _, _, _, _, _, _, _, _, _, rfl, _⟩ := h; rfl) | (obtain ⟨_, _, _, _, _, _, _, _, _, _, _, _, _, _, _, _, _, _, _, _, _, _, _, rfl, _⟩ := h; rfl)
  · obtain ⟨a, ns, rfl, hS, hn, q⟩ := h
    refine ⟨_, (pss_cons (ps_for PassesOwn.never rfl (pi_range1 (by rfl) T.b_range (pa_cons (pe_callB (call_max2 rfl) (by rfl) T.b_max (by decide +kernel) (pa_cons pe_int (pa_cons (pe_callB (call_min2 rfl) (by rfl) T.b_min (by decide +kernel) (pa_cons pe_int (pa_cons (pe_callB call_len_seq (by rfl) T.b_len PySem.boot_len (pa_cons (pv 0) pa_nil)) pa_nil))) pa_nil))) pa_nil)) (pg_name (i := 1) sc_law.nd rfl (.inl rfl))
      (pss_cons (ps_set (i := 2) sc_law.nd rfl (.inl rfl) (pe_call G_l_cask (hr.mono (by decide)) (by rfl) g_l_cask k_l_cask b_l_cask .nil pass0 (pa_cons (pv 0) (pa_cons (pv 1) pa_nil))))
    (pss_one (ps_if (PW.pt (pw_or (pt_not (pt_val (pe_call G_l_right (hr.mono (by decide)) (by rfl) g_l_right k_l_right b_l_right .nil pass0 (pa_cons (pv 2) pa_nil)))) (pw_or1 (pt_not (pt_val (pe_call G_l_right (hr.mono (by decide)) (by rfl) g_l_right k_l_right b_l_right .nil pass0 (pa_cons (pv 2) pa_nil)))))))
      (pss_one (ps_ret pe_bl))
      pss_nil))))
    (Evl.pss_cut (ps_setLc (i := 3) (own := [("_law_row", 4)]) (g := (gName 4)) rfl sc_law.nd rfl rfl (sw_true rfl rfl rfl (by decide +kernel)) (pi_tup (pe_tup (pa_cons (pe_tup (pa_cons pe_int (pa_cons pe_int (pa_cons pe_int (pa_cons pe_int pa_nil))))) (pa_cons (pe_tup (pa_cons pe_int (pa_cons pe_int (pa_cons pe_int (pa_cons pe_int pa_nil))))) (pa_cons (pe_tup (pa_cons pe_int (pa_cons pe_int (pa_cons pe_int (pa_cons pe_int pa_nil))))) (pa_cons (pe_tup (pa_cons pe_int (pa_cons pe_int (pa_cons (pe_un un_neg pe_int) (pa_cons (pe_un un_neg pe_int) pa_nil))))) (pa_cons (pe_tup (pa_cons pe_int (pa_cons pe_int (pa_cons (pe_un un_neg pe_int) (pa_cons (pe_un un_neg pe_int) pa_nil))))) pa_nil))))))) (blkOk_by (N := N_law) (sc := defScope s_law) (by decide +kernel)) (fun _ _ _ _ _ => (pg_name (i := 4) sc_law.nd rfl (.inl rfl))) (fun _ _ _ _ _ => pts_nil) (fun _ _ _ _ _ => (pe_call G_is_turning (hr.mono (by decide)) (by rfl) g_is_turning k_is_turning b_is_turning .nil pass0 (pa_cons (pe_make R_Form___init__ G_Form___init__ (hr.mono (by decide)) (by rfl) T.g_Form b_Form___init__ .nil pass0 (pa_cons (pv 4) pa_nil)) pa_nil))))
    (pss_one (ps_ret (pe_and (pe_cmpR (op_eqD hr.units) (pv 3) (pe_lst (pa_cons pe_bl (pa_cons pe_bl (pa_cons pe_bl (pa_cons pe_bl (pa_cons pe_bl pa_nil)))))) (nomark _)) (pe_one (pe_cmpR op_eq (pe_prop (pe_call G_turning_form (hr.mono (by decide)) (by rfl) g_turning_form k_turning_form b_turning_form .nil pass0 (pa_cons pe_int (pa_cons pe_int pa_nil))) T.cl_Form R_Form_discriminant G_Form_discriminant (hr.mono (by decide)) b_Form_discriminant .nil pass0 (by rfl)) pe_int (nomark _)))))))), ?_⟩
    have hm : ∀ z : Int, z ≤ 63 → -(2 ^ 62) ≤ (if (if z < 3 then z else 3) > 1 then (if z < 3 then z else 3) else 1) ∧ (if (if z < 3 then z else 3) > 1 then (if z < 3 then z else 3) else 1) < 2 ^ 62 := fun z hz => by
      split <;> split <;> omega
    have hm2 := hm (((ns.map V.int).length : Nat) : Int) (by rw [List.length_map]; omega)
    refine ⟨_, rfl, a, _, rfl, .inl hS, _, _, rfl, _, _, rfl, _, rfl, hm2.1, hm2.2, ?_⟩
    refine for_range (lo := 0) (fun i σ H' => ∃ y1 y2, σ = [some (.ref a), y1, y2, none, none] ∧ Ex0 H H') ⟨none, none, rfl, Ex0.refl H⟩ ?_ ?_
    · rintro i σ H' hi ⟨y1, y2, rfl, e⟩
      refine ⟨_, rfl, _, rfl, a, ns, i, by show [V.ref a, V.int (0 + (i : Int))] = _; rw [Int.zero_add], e.sqL (fun z => z) hS, fun p H1 np e1 hv => ?_⟩
      have hp0 : H p = none := Fx.free e (fun z => z) np
      have e01 : Ex0 H H1 := e.trans e1
      refine ⟨_, rfl, p, rfl, hv, fun H3 e3 => ⟨_, rfl, ?_⟩⟩
      refine iteF ⟨_, rfl, p, rfl, e3.1, fun H4 e4 => ⟨_, rfl, ?_⟩⟩
      refine iteF ?_
      exact ⟨_, _, rfl, ex_fv e01 hp0 (e3.trans e4)⟩
    · rintro σ H' ⟨y1, y2, rfl, e⟩
      refine ⟨fun σ H3 => ∃ L : Addr, σ = [some (.ref a), y1, y2, some (.ref L), none] ∧ H3 L = some (.lst (([true, false, false, false, true] : List Bool).map V.bl)), ?_, ?_⟩
      · refine ⟨sl4, fun t1 n1 => ⟨sl4, fun t2 n2 => ⟨sl4, fun t3 n3 => ⟨_, rfl, _, rfl, sl4, fun t4 n4 => ⟨_, rfl, _, rfl, sl4, fun t5 n5 => ⟨sl5, fun T0 nT => ?_⟩⟩⟩⟩⟩⟩
        have w1 := Ex0.new (o := .tup (([0, 1, 1, 0] : List Int).map V.int)) n1
        have w2 := Ex0.new (o := .tup (([1, 1, 2, 1] : List Int).map V.int)) n2
        have w3 := Ex0.new (o := .tup (([0, 1, 2, 0] : List Int).map V.int)) n3
        have w4 := Ex0.new (o := .tup (([1, 1, -10, -8] : List Int).map V.int)) n4
        have w5 := Ex0.new (o := .tup (([1, 0, -3, -1] : List Int).map V.int)) n5
        have w6 := Ex0.new (o := .tup [.ref t1, .ref t2, .ref t3, .ref t4, .ref t5]) nT
        have w56 := w5.trans w6
        have w46 := w4.trans w56
        have w36 := w3.trans w46
        have w26 := w2.trans w36
        have hT : (upd (upd (upd (upd (upd (upd H' t1 (.tup (([0, 1, 1, 0] : List Int).map V.int))) t2 (.tup (([1, 1, 2, 1] : List Int).map V.int))) t3 (.tup (([0, 1, 2, 0] : List Int).map V.int))) t4 (.tup (([1, 1, -10, -8] : List Int).map V.int))) t5 (.tup (([1, 0, -3, -1] : List Int).map V.int))) T0 (.tup [.ref t1, .ref t2, .ref t3, .ref t4, .ref t5])) T0 = some (.tup [.ref t1, .ref t2, .ref t3, .ref t4, .ref t5]) := upd_same
        have r1 : Ti _ t1 [0, 1, 1, 0] := Ex0.ti w26 upd_same
        have r2 : Ti _ t2 [1, 1, 2, 1] := Ex0.ti w36 upd_same
        have r3 : Ti _ t3 [0, 1, 2, 0] := Ex0.ti w46 upd_same
        have r4 : Ti _ t4 [1, 1, -10, -8] := Ex0.ti w56 upd_same
        have r5 : Ti _ t5 [1, 0, -3, -1] := Ex0.ti w6 upd_same
        have hget : ∀ (i : Nat) (x : V), ([.ref t1, .ref t2, .ref t3, .ref t4, .ref t5] : List V)[i]? = some x → ∃ (t : Addr) (a b c d : Int), x = .ref t ∧ Ti (upd (upd (upd (upd (upd (upd H' t1 (.tup (([0, 1, 1, 0] : List Int).map V.int))) t2 (.tup (([1, 1, 2, 1] : List Int).map V.int))) t3 (.tup (([0, 1, 2, 0] : List Int).map V.int))) t4 (.tup (([1, 1, -10, -8] : List Int).map V.int))) t5 (.tup (([1, 0, -3, -1] : List Int).map V.int))) T0 (.tup [.ref t1, .ref t2, .ref t3, .ref t4, .ref t5])) t [a, b, c, d] ∧ (∀ n ∈ [a, b, c, d], n.natAbs ≤ 10) ∧ fdisc a b c d ≠ 0 ∧ ([true, false, false, false, true] : List Bool)[i]? = some (decide ((gcdL [h0 a b c d, h1 a b c d, h2 a b c d] : Int) * gcdL [h0 a b c d, h1 a b c d, h2 a b c d] = fdisc a b c d)) ∧ i < 5 := fun i x hx => by
          match i, hx with
          | 0, hx => exact ⟨t1, 0, 1, 1, 0, (Option.some.inj hx).symm, r1, by decide, by decide, by decide +kernel, by decide⟩
          | 1, hx => exact ⟨t2, 1, 1, 2, 1, (Option.some.inj hx).symm, r2, by decide, by decide, by decide +kernel, by decide⟩
          | 2, hx => exact ⟨t3, 0, 1, 2, 0, (Option.some.inj hx).symm, r3, by decide, by decide, by decide +kernel, by decide⟩
          | 3, hx => exact ⟨t4, 1, 1, -10, -8, (Option.some.inj hx).symm, r4, by decide, by decide, by decide +kernel, by decide⟩
          | 4, hx => exact ⟨t5, 1, 0, -3, -1, (Option.some.inj hx).symm, r5, by decide, by decide, by decide +kernel, by decide⟩
        refine ⟨T0, rfl, ⟨_, SqT.of hT⟩, ?_⟩
        refine lcT fm0 trivial (SqT.of hT) (fun z => z) (fun i acc _ => acc = (([true, false, false, false, true] : List Bool).take i).map V.bl) (fun _ _ => rfl) (fun D i x acc H1 hD hx e1 hA hlen hp => ?_) (fun D H1 acc hD e1 hA hp => ?_)
        · obtain ⟨t, a0, b0, c0, d0, rfl, ht, hs, hd0, hb, hi⟩ := hget i x hx
          have small : ∀ {n : Int} {k : Nat}, n ∈ [a0, b0, c0, d0] → 4 ≤ k → B k n := fun h hk => ⟨Nat.lt_of_le_of_lt (hs _ h) (Nat.lt_of_lt_of_le (by decide : 10 < 2 ^ 4) (Nat.pow_le_pow_right (by decide) hk)), by omega⟩
          have sn : ∀ n ∈ [a0, b0, c0, d0], Short n := fun n h => by have := hs n h; exact ⟨by omega, by omega⟩
          refine ⟨rfl, ?_⟩
          have ht1 := Ex0.ti e1 ht
          refine ⟨_, rfl, fun y dy ny ndy _ => ?_⟩
          refine ⟨y, dy, t, [a0, b0, c0, d0], rfl, upd_same, made_at ny ndy ht1, rfl, sn, fun Hb eb hb' => ⟨rfl, ?_⟩⟩
          obtain ⟨eb', hy⟩ := fo_made ny ndy ht1 eb hb'
          refine ⟨y, _, _, _, _, rfl, hy, small (by simp) (by decide), small (by simp) (by decide), small (by simp) (by decide), small (by simp) (by decide), hd0, fun Hc ec => ?_⟩
          refine cs_yes fm0 trivial hD e1 hA hlen (by omega) (eb'.trans ec) ?_
          rw [hp, List.take_add_one, hb, List.map_append]
          rfl
        · subst hp
          exact ⟨D, rfl, hA⟩
      rintro σ H3 ⟨L, rfl, hL⟩
      refine ⟨_, rfl, sl5, fun u nu => ?_⟩
      have eu := Ex0.new (o := .lst [.bl true, .bl false, .bl false, .bl false, .bl true]) nu
      refine ⟨.list [.bool true, .bool false, .bool false, .bool false, .bool true], .list [.bool true, .bool false, .bool false, .bool false, .bool true], .lst (SqL.of (Ex0.ap eu hL)) (.cons (.bl _) (.cons (.bl _) (.cons (.bl _) (.cons (.bl _) (.cons (.bl _) .nil))))), .lst (SqL.of upd_same) (.cons (.bl _) (.cons (.bl _) (.cons (.bl _) (.cons (.bl _) (.cons (.bl _) .nil))))), by decide +kernel, by decide +kernel, ?_⟩
      have kk : PyData.eqv (.list [.bool true, .bool false, .bool false, .bool false, .bool true]) (.list [.bool true, .bool false, .bool false, .bool false, .bool true]) = true := by decide +kernel
      rw [kk]
      refine ⟨_, rfl, iteT ?_⟩
      refine ⟨1, 0, rfl, ⟨by decide, by decide⟩, ⟨by decide, by decide⟩, fun y H4 e4 hy => ?_⟩
      obtain ⟨dy, ty, m1, m2⟩ := id hy
      refine ⟨y, dy, _, rfl, m1, y, _, _, _, _, rfl, hy, ⟨by decide, by decide⟩, ⟨by decide, by decide⟩, ⟨by decide, by decide⟩, ⟨by decide, by decide⟩, rfl, ?_⟩
      rw [deI, decide_eq_true (by decide)]
      exact q _
end
def e0 : Hd.Dd := ⟨fun K => He.ga K "is_any_integer", "is_any_integer", "is_any_integer", s_is_any_integer, []⟩
def e1 : Hd.Dd := ⟨fun K => He.ga K "is_short_integer", "is_short_integer", "is_short_integer", s_is_short_integer, []⟩
def e2 : Hd.Dd := ⟨fun K => He.ga K "are_any_integers", "are_any_integers", "are_any_integers", s_are_any_integers, []⟩
def e3 : Hd.Dd := ⟨fun K => He.ga K "are_short_integers", "are_short_integers", "are_short_integers", s_are_short_integers, []⟩
def e4 : Hd.Dd := ⟨fun K => He.ga K "check_integer", "check_integer", "check_integer", s_check_integer, []⟩
def e5 : Hd.Dd := ⟨fun K => He.ga K "shared_divisor", "shared_divisor", "shared_divisor", s_shared_divisor, []⟩
def e6 : Hd.Dd := ⟨fun K => He.ga K "determinant_of", "determinant_of", "determinant_of", s_determinant_of, []⟩
def e7 : Hd.Dd := ⟨fun K => He.ga K "is_change", "is_change", "is_change", s_is_change, []⟩
def e8 : Hd.Dd := ⟨fun K => He.ga K "is_short_change", "is_short_change", "is_short_change", s_is_short_change, []⟩
def e9 : Hd.Dd := ⟨fun K => He.ga K "check_change", "check_change", "check_change", s_check_change, []⟩
def e10 : Hd.Dd := ⟨fun K => He.ga K "both", "both", "both", s_both, []⟩
def e11 : Hd.Dd := ⟨fun K => He.ga K "double_value", "double_value", "double_value", s_double_value, []⟩
def e12 : Hd.Dd := ⟨fun K => He.ga K "double_discriminant", "double_discriminant", "double_discriminant", s_double_discriminant, []⟩
def e13 : Hd.Dd := ⟨fun K => He.ga K "double_led", "double_led", "double_led", s_double_led, []⟩
def e14 : Hd.Dd := ⟨fun K => He.ga K "double_of", "double_of", "double_of", s_double_of, []⟩
def e15 : Hd.Dd := ⟨fun K => He.ma K (He.ga K "Double") "__init__", "__init__", "Double.__init__", s_Double___init__, []⟩
def e16 : Hd.Dd := ⟨fun K => Hd.pa K (He.ga K "Double") "coefficients", "coefficients", "Double.coefficients", s_Double_coefficients, []⟩
def e17 : Hd.Dd := ⟨fun K => Hd.pa K (He.ga K "Double") "discriminant", "discriminant", "Double.discriminant", s_Double_discriminant, []⟩
def e18 : Hd.Dd := ⟨fun K => Hd.pa K (He.ga K "Double") "content", "content", "Double.content", s_Double_content, []⟩
def e19 : Hd.Dd := ⟨fun K => He.ma K (He.ga K "Double") "__call__", "__call__", "Double.__call__", s_Double___call__, []⟩
def e20 : Hd.Dd := ⟨fun K => He.ma K (He.ga K "Double") "led", "led", "Double.led", s_Double_led, []⟩
def e21 : Hd.Dd := ⟨fun K => He.ma K (He.ga K "Double") "__neg__", "__neg__", "Double.__neg__", s_Double___neg__, []⟩
def e22 : Hd.Dd := ⟨fun K => He.ma K (He.ga K "Double") "__eq__", "__eq__", "Double.__eq__", s_Double___eq__, []⟩
def e23 : Hd.Dd := ⟨fun K => He.ma K (He.ga K "Double") "__str__", "__str__", "Double.__str__", s_Double___str__, []⟩
def e24 : Hd.Dd := ⟨fun K => He.ga K "form_value", "form_value", "form_value", s_form_value, []⟩
def e25 : Hd.Dd := ⟨fun K => He.ga K "form_discriminant", "form_discriminant", "form_discriminant", s_form_discriminant, []⟩
def e26 : Hd.Dd := ⟨fun K => He.ga K "form_hessian", "form_hessian", "form_hessian", s_form_hessian, []⟩
def e27 : Hd.Dd := ⟨fun K => He.ga K "form_led", "form_led", "form_led", s_form_led, []⟩
def e28 : Hd.Dd := ⟨fun K => He.ga K "check_form", "check_form", "check_form", s_check_form, []⟩
def e29 : Hd.Dd := ⟨fun K => He.ga K "form_of", "form_of", "form_of", s_form_of, []⟩
def e30 : Hd.Dd := ⟨fun K => He.ma K (He.ga K "Form") "__init__", "__init__", "Form.__init__", s_Form___init__, []⟩
def e31 : Hd.Dd := ⟨fun K => Hd.pa K (He.ga K "Form") "coefficients", "coefficients", "Form.coefficients", s_Form_coefficients, []⟩
def e32 : Hd.Dd := ⟨fun K => Hd.pa K (He.ga K "Form") "discriminant", "discriminant", "Form.discriminant", s_Form_discriminant, []⟩
def e33 : Hd.Dd := ⟨fun K => Hd.pa K (He.ga K "Form") "content", "content", "Form.content", s_Form_content, []⟩
def e34 : Hd.Dd := ⟨fun K => Hd.pa K (He.ga K "Form") "hessian", "hessian", "Form.hessian", s_Form_hessian, []⟩
def e35 : Hd.Dd := ⟨fun K => He.ma K (He.ga K "Form") "__call__", "__call__", "Form.__call__", s_Form___call__, []⟩
def e36 : Hd.Dd := ⟨fun K => He.ma K (He.ga K "Form") "led", "led", "Form.led", s_Form_led, []⟩
def e37 : Hd.Dd := ⟨fun K => He.ma K (He.ga K "Form") "times", "times", "Form.times", s_Form_times, []⟩
def e38 : Hd.Dd := ⟨fun K => He.ma K (He.ga K "Form") "__neg__", "__neg__", "Form.__neg__", s_Form___neg__, []⟩
def e39 : Hd.Dd := ⟨fun K => He.ma K (He.ga K "Form") "__eq__", "__eq__", "Form.__eq__", s_Form___eq__, []⟩
def e40 : Hd.Dd := ⟨fun K => He.ga K "shift", "shift", "shift", s_shift, []⟩
def e41 : Hd.Dd := ⟨fun K => He.ga K "double_step", "double_step", "double_step", s_double_step, []⟩
def e42 : Hd.Dd := ⟨fun K => He.ga K "double_way", "double_way", "double_way", s_double_way, []⟩
def e43 : Hd.Dd := ⟨fun K => He.ga K "turning", "turning", "turning", s_turning, []⟩
def e44 : Hd.Dd := ⟨fun K => He.ga K "is_whole_square", "is_whole_square", "is_whole_square", s_is_whole_square, []⟩
def e45 : Hd.Dd := ⟨fun K => He.ga K "turning_form", "turning_form", "turning_form", s_turning_form, []⟩
def e46 : Hd.Dd := ⟨fun K => He.ga K "is_turning", "is_turning", "is_turning", s_is_turning, []⟩
def e47 : Hd.Dd := ⟨fun K => He.ga K "_law_cask", "_law_cask", "_law_cask", s_l_cask, []⟩
def e48 : Hd.Dd := ⟨fun K => He.ga K "_law_tap", "_law_tap", "_law_tap", s_l_tap, []⟩
def e49 : Hd.Dd := ⟨fun K => He.ga K "_law_one", "_law_one", "_law_one", s_l_one, []⟩
def e50 : Hd.Dd := ⟨fun K => He.ga K "_law_then", "_law_then", "_law_then", s_l_then, []⟩
def e51 : Hd.Dd := ⟨fun K => He.ga K "_law_change", "_law_change", "_law_change", s_l_change, []⟩
def e52 : Hd.Dd := ⟨fun K => He.ga K "_law_common", "_law_common", "_law_common", s_l_common, []⟩
def e53 : Hd.Dd := ⟨fun K => He.ga K "_law_product", "_law_product", "_law_product", s_l_product, []⟩
def e54 : Hd.Dd := ⟨fun K => He.ga K "_law_discriminant", "_law_discriminant", "_law_discriminant", s_l_discriminant, []⟩
def e55 : Hd.Dd := ⟨fun K => He.ga K "_law_by_x", "_law_by_x", "_law_by_x", s_l_by_x, []⟩
def e56 : Hd.Dd := ⟨fun K => He.ga K "_law_by_y", "_law_by_y", "_law_by_y", s_l_by_y, []⟩
def e57 : Hd.Dd := ⟨fun K => He.ga K "_law_hessian", "_law_hessian", "_law_hessian", s_l_hessian, []⟩
def e58 : Hd.Dd := ⟨fun K => He.ga K "_law_middle", "_law_middle", "_law_middle", s_l_middle, []⟩
def e59 : Hd.Dd := ⟨fun K => He.ga K "_law_turning", "_law_turning", "_law_turning", s_l_turning, []⟩
def e60 : Hd.Dd := ⟨fun K => He.ga K "_law_turns", "_law_turns", "_law_turns", s_l_turns, []⟩
def e61 : Hd.Dd := ⟨fun K => He.ga K "_law_right", "_law_right", "_law_right", s_l_right, []⟩
def e62 : Hd.Dd := ⟨fun K => He.ga K "law", "law", "law", s_law, []⟩
def dd0 : List Hd.Dd := [e0, e1, e2, e3, e4, e5, e6, e7, e8, e9, e10, e11, e12, e13, e14, e15, e16, e17, e18, e19]
def dd1 : List Hd.Dd := [e20, e21, e22, e23, e24, e25, e26, e27, e28, e29, e30, e31, e32, e33, e34, e35, e36, e37, e38, e39]
def dd2 : List Hd.Dd := [e40, e41, e42, e43, e44, e45, e46, e47, e48, e49, e50, e51, e52, e53, e54, e55, e56, e57, e58, e59]
def dd3 : List Hd.Dd := [e60, e61, e62]
def dd : List Hd.Dd := dd0 ++ (dd1 ++ (dd2 ++ (dd3)))
def g0 : Hd.Fb := fun K => (fun K => (He.Fa.glo "Form").ok K) K
def g1 : Hd.Fb := fun K => (fun K => (He.Fa.cls "Form").ok K) K
def g2 : Hd.Fb := fun K => Hd.tyB "Form" K
def g3 : Hd.Fb := fun K => (fun K => (He.Fa.noat "Form" "_coefficients").ok K) K
def g4 : Hd.Fb := fun K => (fun K => (He.Fa.glo "Double").ok K) K
def g5 : Hd.Fb := fun K => (fun K => (He.Fa.cls "Double").ok K) K
def g6 : Hd.Fb := fun K => Hd.tyB "Double" K
def g7 : Hd.Fb := fun K => (fun K => (He.Fa.noat "Double" "_coefficients").ok K) K
def g8 : Hd.Fb := fun K => (fun K => (He.Fa.glo "is_any_integer").ok K) K
def g9 : Hd.Fb := fun K => (fun K => (He.Fa.glo "is_short_integer").ok K) K
def g10 : Hd.Fb := fun K => (fun K => (He.Fa.glo "are_any_integers").ok K) K
def g11 : Hd.Fb := fun K => (fun K => (He.Fa.glo "are_short_integers").ok K) K
def g12 : Hd.Fb := fun K => (fun K => (He.Fa.glo "check_integer").ok K) K
def g13 : Hd.Fb := fun K => (fun K => (He.Fa.glo "shared_divisor").ok K) K
def g14 : Hd.Fb := fun K => (fun K => (He.Fa.glo "determinant_of").ok K) K
def g15 : Hd.Fb := fun K => (fun K => (He.Fa.glo "is_change").ok K) K
def g16 : Hd.Fb := fun K => (fun K => (He.Fa.glo "is_short_change").ok K) K
def g17 : Hd.Fb := fun K => (fun K => (He.Fa.glo "check_change").ok K) K
def g18 : Hd.Fb := fun K => (fun K => (He.Fa.glo "both").ok K) K
def g19 : Hd.Fb := fun K => (fun K => (He.Fa.glo "double_value").ok K) K
def g20 : Hd.Fb := fun K => (fun K => (He.Fa.glo "double_discriminant").ok K) K
def g21 : Hd.Fb := fun K => (fun K => (He.Fa.glo "double_led").ok K) K
def g22 : Hd.Fb := fun K => (fun K => (He.Fa.glo "double_of").ok K) K
def g23 : Hd.Fb := fun K => (fun K => (He.Fa.mkr "Double").ok K) K
def g24 : Hd.Fb := fun K => Hd.propB "Double" "coefficients" K
def g25 : Hd.Fb := fun K => Hd.propB "Double" "discriminant" K
def g26 : Hd.Fb := fun K => Hd.propB "Double" "content" K
def g27 : Hd.Fb := fun K => Hd.callB "Double" K
def g28 : Hd.Fb := fun K => (fun K => (He.Fa.meth "Double" "led").ok K) K
def g29 : Hd.Fb := fun K => (fun K => (He.Fa.meth "Double" "__neg__").ok K) K
def g30 : Hd.Fb := fun K => Hd.eqB "Double" K
def g31 : Hd.Fb := fun K => (fun K => (He.Fa.meth "Double" "__str__").ok K) K
def g32 : Hd.Fb := fun K => (fun K => (He.Fa.glo "form_value").ok K) K
def g33 : Hd.Fb := fun K => (fun K => (He.Fa.glo "form_discriminant").ok K) K
def g34 : Hd.Fb := fun K => (fun K => (He.Fa.glo "form_hessian").ok K) K
def g35 : Hd.Fb := fun K => (fun K => (He.Fa.glo "form_led").ok K) K
def g36 : Hd.Fb := fun K => (fun K => (He.Fa.glo "check_form").ok K) K
def g37 : Hd.Fb := fun K => (fun K => (He.Fa.glo "form_of").ok K) K
def g38 : Hd.Fb := fun K => (fun K => (He.Fa.mkr "Form").ok K) K
def g39 : Hd.Fb := fun K => Hd.propB "Form" "coefficients" K
def g40 : Hd.Fb := fun K => Hd.propB "Form" "discriminant" K
def g41 : Hd.Fb := fun K => Hd.propB "Form" "content" K
def g42 : Hd.Fb := fun K => Hd.propB "Form" "hessian" K
def g43 : Hd.Fb := fun K => Hd.callB "Form" K
def g44 : Hd.Fb := fun K => (fun K => (He.Fa.meth "Form" "led").ok K) K
def g45 : Hd.Fb := fun K => (fun K => (He.Fa.meth "Form" "times").ok K) K
def g46 : Hd.Fb := fun K => (fun K => (He.Fa.meth "Form" "__neg__").ok K) K
def g47 : Hd.Fb := fun K => Hd.eqB "Form" K
def g48 : Hd.Fb := fun K => (fun K => (He.Fa.glo "shift").ok K) K
def g49 : Hd.Fb := fun K => (fun K => (He.Fa.glo "double_step").ok K) K
def g50 : Hd.Fb := fun K => (fun K => (He.Fa.glo "double_way").ok K) K
def g51 : Hd.Fb := fun K => (fun K => (He.Fa.glo "turning").ok K) K
def g52 : Hd.Fb := fun K => (fun K => (He.Fa.glo "is_whole_square").ok K) K
def g53 : Hd.Fb := fun K => (fun K => (He.Fa.glo "turning_form").ok K) K
def g54 : Hd.Fb := fun K => (fun K => (He.Fa.glo "is_turning").ok K) K
def g55 : Hd.Fb := fun K => (fun K => (He.Fa.glo "_law_cask").ok K) K
def g56 : Hd.Fb := fun K => (fun K => (He.Fa.glo "_law_tap").ok K) K
def g57 : Hd.Fb := fun K => (fun K => (He.Fa.glo "_law_one").ok K) K
def g58 : Hd.Fb := fun K => (fun K => (He.Fa.glo "_law_then").ok K) K
def g59 : Hd.Fb := fun K => (fun K => (He.Fa.glo "_law_change").ok K) K
def g60 : Hd.Fb := fun K => (fun K => (He.Fa.glo "_law_common").ok K) K
def g61 : Hd.Fb := fun K => (fun K => (He.Fa.glo "_law_product").ok K) K
def g62 : Hd.Fb := fun K => (fun K => (He.Fa.glo "_law_discriminant").ok K) K
def g63 : Hd.Fb := fun K => (fun K => (He.Fa.glo "_law_by_x").ok K) K
def g64 : Hd.Fb := fun K => (fun K => (He.Fa.glo "_law_by_y").ok K) K
def g65 : Hd.Fb := fun K => (fun K => (He.Fa.glo "_law_hessian").ok K) K
def g66 : Hd.Fb := fun K => (fun K => (He.Fa.glo "_law_middle").ok K) K
def g67 : Hd.Fb := fun K => (fun K => (He.Fa.glo "_law_turning").ok K) K
def g68 : Hd.Fb := fun K => (fun K => (He.Fa.glo "_law_turns").ok K) K
def g69 : Hd.Fb := fun K => (fun K => (He.Fa.glo "_law_right").ok K) K
def g70 : Hd.Fb := fun K => (fun K => (He.Fa.glo "law").ok K) K
def g71 : Hd.Fb := fun K => (fun K => (He.Fa.free "abs").ok K) K
def g72 : Hd.Fb := fun K => (fun K => (He.Fa.free "all").ok K) K
def g73 : Hd.Fb := fun K => (fun K => (He.Fa.free "bool").ok K) K
def g74 : Hd.Fb := fun K => (fun K => (He.Fa.free "enumerate").ok K) K
def g75 : Hd.Fb := fun K => (fun K => (He.Fa.free "int").ok K) K
def g76 : Hd.Fb := fun K => (fun K => (He.Fa.free "isinstance").ok K) K
def g77 : Hd.Fb := fun K => (fun K => (He.Fa.free "len").ok K) K
def g78 : Hd.Fb := fun K => (fun K => (He.Fa.free "max").ok K) K
def g79 : Hd.Fb := fun K => (fun K => (He.Fa.free "min").ok K) K
def g80 : Hd.Fb := fun K => (fun K => (He.Fa.free "range").ok K) K
def g81 : Hd.Fb := fun K => (fun K => (He.Fa.free "str").ok K) K
def g82 : Hd.Fb := fun K => (fun K => (He.Fa.free "sum").ok K) K
def g83 : Hd.Fb := fun K => (fun K => (He.Fa.free "tuple").ok K) K
def g84 : Hd.Fb := fun K => (fun K => (He.Fa.free "zip").ok K) K
def g85 : Hd.Fb := fun K => (fun K => (He.Fa.int "LIMIT" (1000000000000000000000000000000000000000000000000000000000000)).ok K) K
def g86 : Hd.Fb := fun K => Hd.bltB "gcd" "math.gcd" K
def g87 : Hd.Fb := fun K => Hd.bltB "isqrt" "math.isqrt" K
def g88 : Hd.Fb := fun K => Hd.refsB (fun K => He.ga K "IDLE") 2 K
def g89 : Hd.Fb := fun K => Hd.intsB (fun K => Hd.itA K (He.ga K "IDLE") 0) [1, 0] K
def g90 : Hd.Fb := fun K => Hd.intsB (fun K => Hd.itA K (He.ga K "IDLE") 1) [0, 1] K
def g91 : Hd.Fb := fun K => (fun K => (He.Fa.glo "IDLE").ok K) K
def g92 : Hd.Fb := fun K => Hd.refsB (fun K => He.ga K "EXCHANGE") 2 K
def g93 : Hd.Fb := fun K => Hd.intsB (fun K => Hd.itA K (He.ga K "EXCHANGE") 0) [0, 1] K
def g94 : Hd.Fb := fun K => Hd.intsB (fun K => Hd.itA K (He.ga K "EXCHANGE") 1) [1, 0] K
def g95 : Hd.Fb := fun K => (fun K => (He.Fa.glo "EXCHANGE").ok K) K
def g96 : Hd.Fb := fun K => Hd.refsB (fun K => He.ga K "SECOND_BACK") 2 K
def g97 : Hd.Fb := fun K => Hd.intsB (fun K => Hd.itA K (He.ga K "SECOND_BACK") 0) [1, 0] K
def g98 : Hd.Fb := fun K => Hd.intsB (fun K => Hd.itA K (He.ga K "SECOND_BACK") 1) [0, (-1)] K
def g99 : Hd.Fb := fun K => (fun K => (He.Fa.glo "SECOND_BACK").ok K) K
def fa0 : List Hd.Fb := [g0, g1, g2, g3, g4, g5, g6, g7, g8, g9, g10, g11, g12, g13, g14, g15, g16, g17, g18, g19]
def fa1 : List Hd.Fb := [g20, g21, g22, g23, g24, g25, g26, g27, g28, g29, g30, g31, g32, g33, g34, g35, g36, g37, g38, g39]
def fa2 : List Hd.Fb := [g40, g41, g42, g43, g44, g45, g46, g47, g48, g49, g50, g51, g52, g53, g54, g55, g56, g57, g58, g59]
def fa3 : List Hd.Fb := [g60, g61, g62, g63, g64, g65, g66, g67, g68, g69, g70, g71, g72, g73, g74, g75, g76, g77, g78, g79]
def fa4 : List Hd.Fb := [g80, g81, g82, g83, g84, g85, g86, g87, g88, g89, g90, g91, g92, g93, g94, g95, g96, g97, g98, g99]
def fa : List Hd.Fb := fa0 ++ (fa1 ++ (fa2 ++ (fa3 ++ (fa4))))
def names0 : List Str := ["_wall", "__name__", "RingError", "InvalidForm", "InvalidChange", "InvalidDouble", "InvalidOperation", "ParseError", "InvalidNumber", "DIGITS", "LIMIT", "is_any_integer", "is_short_integer", "is_between", "are_any_integers", "are_short_integers", "is_written_integer", "check_integer", "check_between", "shared_divisor", "IDLE", "determinant_of", "is_change", "is_short_change", "check_change", "both", "double_value", "double_discriminant", "double_led", "double_of"]
def names1 : List Str := ["Double", "form_value", "form_discriminant", "form_hessian", "form_led", "check_form", "form_of", "Form", "EXCHANGE", "SECOND_BACK", "shift", "double_step", "double_way", "turning", "is_whole_square", "turning_form", "is_turning", "_law_cask", "_law_tap", "_law_one", "_law_then", "_law_change", "_law_common", "_law_product", "_law_discriminant", "_law_by_x", "_law_by_y", "_law_hessian", "_law_middle", "_law_turning"]
def names2 : List Str := ["_law_turns", "_law_right"]
def names : List Str := names0 ++ (names1 ++ (names2))
abbrev RR : PySem.W.OpenRow := PySem.W.OpenLaw.row PySem.Challenge.rw_formrings_k77_whole_turning_forms_and_fo
abbrev vw : Program := PySem.W.view RR.prog [0, 71]
abbrev hk : PySem.W.Hook := Hd.hookM 5 fa dd
def ob (s : PySem.W.SharedT) : Hd.AlM := Hd.obsMG 5 fa dd (HandSHeadRun.getT s)
theorem ob_eq (s : PySem.W.SharedT) : ob s = hk.obs s.abs := Hd.obsMG_eq (HandSHeadRun.getT_eq s)
theorem run (w : World) : HandSHeadRun.RunEqI RR vw hk ob 12000 names w := by
  unfold HandSHeadRun.RunEqI
  kernel_rfl
theorem facts {P : Program} {w : World} {K : PySem.W.Frag} {h : Heap} {mg : Str → Option Value} {f : Addr} (X : K.In h) (G : h.Ns mainGlobals mg) (hfa : mg ("law" : Str) = some (.ref f)) (c : Hd.SaysM fa dd K) :
    ∃ fd : FuncData, (∀ (s : Shared) (v : Value), BindsTo s fd ⟨[v], []⟩ [("_law_script", v)]) ∧ ∀ base : Heap, K.In base → base.Ns mainGlobals mg → FnOk P w K mg base CX0 11 f fd ["_law_script"] (sp_lawW K) := by
  obtain ⟨fd0, F0⟩ := c.def_ 0 (d := e0) rfl
  obtain ⟨fd1, F1⟩ := c.def_ 1 (d := e1) rfl
  obtain ⟨fd2, F2⟩ := c.def_ 2 (d := e2) rfl
  obtain ⟨fd3, F3⟩ := c.def_ 3 (d := e3) rfl
  obtain ⟨fd4, F4⟩ := c.def_ 4 (d := e4) rfl
  obtain ⟨fd5, F5⟩ := c.def_ 5 (d := e5) rfl
  obtain ⟨fd6, F6⟩ := c.def_ 6 (d := e6) rfl
  obtain ⟨fd7, F7⟩ := c.def_ 7 (d := e7) rfl
  obtain ⟨fd8, F8⟩ := c.def_ 8 (d := e8) rfl
  obtain ⟨fd9, F9⟩ := c.def_ 9 (d := e9) rfl
  obtain ⟨fd10, F10⟩ := c.def_ 10 (d := e10) rfl
  obtain ⟨fd11, F11⟩ := c.def_ 11 (d := e11) rfl
  obtain ⟨fd12, F12⟩ := c.def_ 12 (d := e12) rfl
  obtain ⟨fd13, F13⟩ := c.def_ 13 (d := e13) rfl
  obtain ⟨fd14, F14⟩ := c.def_ 14 (d := e14) rfl
  obtain ⟨fd15, F15⟩ := c.def_ 15 (d := e15) rfl
  obtain ⟨fd16, F16⟩ := c.def_ 16 (d := e16) rfl
  obtain ⟨fd17, F17⟩ := c.def_ 17 (d := e17) rfl
  obtain ⟨fd18, F18⟩ := c.def_ 18 (d := e18) rfl
  obtain ⟨fd19, F19⟩ := c.def_ 19 (d := e19) rfl
  obtain ⟨fd20, F20⟩ := c.def_ 20 (d := e20) rfl
  obtain ⟨fd21, F21⟩ := c.def_ 21 (d := e21) rfl
  obtain ⟨fd22, F22⟩ := c.def_ 22 (d := e22) rfl
  obtain ⟨fd23, F23⟩ := c.def_ 23 (d := e23) rfl
  obtain ⟨fd24, F24⟩ := c.def_ 24 (d := e24) rfl
  obtain ⟨fd25, F25⟩ := c.def_ 25 (d := e25) rfl
  obtain ⟨fd26, F26⟩ := c.def_ 26 (d := e26) rfl
  obtain ⟨fd27, F27⟩ := c.def_ 27 (d := e27) rfl
  obtain ⟨fd28, F28⟩ := c.def_ 28 (d := e28) rfl
  obtain ⟨fd29, F29⟩ := c.def_ 29 (d := e29) rfl
  obtain ⟨fd30, F30⟩ := c.def_ 30 (d := e30) rfl
  obtain ⟨fd31, F31⟩ := c.def_ 31 (d := e31) rfl
  obtain ⟨fd32, F32⟩ := c.def_ 32 (d := e32) rfl
  obtain ⟨fd33, F33⟩ := c.def_ 33 (d := e33) rfl
  obtain ⟨fd34, F34⟩ := c.def_ 34 (d := e34) rfl
  obtain ⟨fd35, F35⟩ := c.def_ 35 (d := e35) rfl
  obtain ⟨fd36, F36⟩ := c.def_ 36 (d := e36) rfl
  obtain ⟨fd37, F37⟩ := c.def_ 37 (d := e37) rfl
  obtain ⟨fd38, F38⟩ := c.def_ 38 (d := e38) rfl
  obtain ⟨fd39, F39⟩ := c.def_ 39 (d := e39) rfl
  obtain ⟨fd40, F40⟩ := c.def_ 40 (d := e40) rfl
  obtain ⟨fd41, F41⟩ := c.def_ 41 (d := e41) rfl
  obtain ⟨fd42, F42⟩ := c.def_ 42 (d := e42) rfl
  obtain ⟨fd43, F43⟩ := c.def_ 43 (d := e43) rfl
  obtain ⟨fd44, F44⟩ := c.def_ 44 (d := e44) rfl
  obtain ⟨fd45, F45⟩ := c.def_ 45 (d := e45) rfl
  obtain ⟨fd46, F46⟩ := c.def_ 46 (d := e46) rfl
  obtain ⟨fd47, F47⟩ := c.def_ 47 (d := e47) rfl
  obtain ⟨fd48, F48⟩ := c.def_ 48 (d := e48) rfl
  obtain ⟨fd49, F49⟩ := c.def_ 49 (d := e49) rfl
  obtain ⟨fd50, F50⟩ := c.def_ 50 (d := e50) rfl
  obtain ⟨fd51, F51⟩ := c.def_ 51 (d := e51) rfl
  obtain ⟨fd52, F52⟩ := c.def_ 52 (d := e52) rfl
  obtain ⟨fd53, F53⟩ := c.def_ 53 (d := e53) rfl
  obtain ⟨fd54, F54⟩ := c.def_ 54 (d := e54) rfl
  obtain ⟨fd55, F55⟩ := c.def_ 55 (d := e55) rfl
  obtain ⟨fd56, F56⟩ := c.def_ 56 (d := e56) rfl
  obtain ⟨fd57, F57⟩ := c.def_ 57 (d := e57) rfl
  obtain ⟨fd58, F58⟩ := c.def_ 58 (d := e58) rfl
  obtain ⟨fd59, F59⟩ := c.def_ 59 (d := e59) rfl
  obtain ⟨fd60, F60⟩ := c.def_ 60 (d := e60) rfl
  obtain ⟨fd61, F61⟩ := c.def_ 61 (d := e61) rfl
  obtain ⟨fd62, F62⟩ := c.def_ 62 (d := e62) rfl
  have T : Txt K mg (He.ga K "Form") (He.ga K "Double") := ⟨He.glo_ok X G (c.fact 0 (f := g0) rfl),
    He.cls_ok (c.fact 1 (f := g1) rfl),
    Hd.ty_ok (c.fact 2 (f := g2) rfl),
    He.noat_ok (c.fact 3 (f := g3) rfl),
    He.glo_ok X G (c.fact 4 (f := g4) rfl),
    He.cls_ok (c.fact 5 (f := g5) rfl),
    Hd.ty_ok (c.fact 6 (f := g6) rfl),
    He.noat_ok (c.fact 7 (f := g7) rfl),
    ⟨_, _, He.glo_ok X G (c.fact 8 (f := g8) rfl), Hd.fun_of F0⟩,
    ⟨_, _, He.glo_ok X G (c.fact 9 (f := g9) rfl), Hd.fun_of F1⟩,
    ⟨_, _, He.glo_ok X G (c.fact 10 (f := g10) rfl), Hd.fun_of F2⟩,
    ⟨_, _, He.glo_ok X G (c.fact 11 (f := g11) rfl), Hd.fun_of F3⟩,
    ⟨_, _, He.glo_ok X G (c.fact 12 (f := g12) rfl), Hd.fun_of F4⟩,
    ⟨_, _, He.glo_ok X G (c.fact 13 (f := g13) rfl), Hd.fun_of F5⟩,
    ⟨_, _, He.glo_ok X G (c.fact 14 (f := g14) rfl), Hd.fun_of F6⟩,
    ⟨_, _, He.glo_ok X G (c.fact 15 (f := g15) rfl), Hd.fun_of F7⟩,
    ⟨_, _, He.glo_ok X G (c.fact 16 (f := g16) rfl), Hd.fun_of F8⟩,
    ⟨_, _, He.glo_ok X G (c.fact 17 (f := g17) rfl), Hd.fun_of F9⟩,
    ⟨_, _, He.glo_ok X G (c.fact 18 (f := g18) rfl), Hd.fun_of F10⟩,
    ⟨_, _, He.glo_ok X G (c.fact 19 (f := g19) rfl), Hd.fun_of F11⟩,
    ⟨_, _, He.glo_ok X G (c.fact 20 (f := g20) rfl), Hd.fun_of F12⟩,
    ⟨_, _, He.glo_ok X G (c.fact 21 (f := g21) rfl), Hd.fun_of F13⟩,
    ⟨_, _, He.glo_ok X G (c.fact 22 (f := g22) rfl), Hd.fun_of F14⟩,
    ⟨He.ga K "Double", _, _, He.mkr_ok (c.fact 23 (f := g23) rfl), Hd.fun_of F15⟩,
    ⟨_, _, _, Hd.prop_ok (c.fact 24 (f := g24) rfl), Hd.fun_of F16⟩,
    ⟨_, _, _, Hd.prop_ok (c.fact 25 (f := g25) rfl), Hd.fun_of F17⟩,
    ⟨_, _, _, Hd.prop_ok (c.fact 26 (f := g26) rfl), Hd.fun_of F18⟩,
    ⟨He.ga K "Double", _, _, Hd.call_ok (c.fact 27 (f := g27) rfl), Hd.fun_of F19⟩,
    ⟨He.ga K "Double", _, _, He.meth_ok (c.fact 28 (f := g28) rfl), Hd.fun_of F20⟩,
    ⟨He.ga K "Double", _, _, He.meth_ok (c.fact 29 (f := g29) rfl), Hd.fun_of F21⟩,
    ⟨He.ga K "Double", _, _, Hd.eq_ok (c.fact 30 (f := g30) rfl), Hd.fun_of F22⟩,
    ⟨He.ga K "Double", _, _, He.meth_ok (c.fact 31 (f := g31) rfl), Hd.fun_of F23⟩,
    ⟨_, _, He.glo_ok X G (c.fact 32 (f := g32) rfl), Hd.fun_of F24⟩,
    ⟨_, _, He.glo_ok X G (c.fact 33 (f := g33) rfl), Hd.fun_of F25⟩,
    ⟨_, _, He.glo_ok X G (c.fact 34 (f := g34) rfl), Hd.fun_of F26⟩,
    ⟨_, _, He.glo_ok X G (c.fact 35 (f := g35) rfl), Hd.fun_of F27⟩,
    ⟨_, _, He.glo_ok X G (c.fact 36 (f := g36) rfl), Hd.fun_of F28⟩,
    ⟨_, _, He.glo_ok X G (c.fact 37 (f := g37) rfl), Hd.fun_of F29⟩,
    ⟨He.ga K "Form", _, _, He.mkr_ok (c.fact 38 (f := g38) rfl), Hd.fun_of F30⟩,
    ⟨_, _, _, Hd.prop_ok (c.fact 39 (f := g39) rfl), Hd.fun_of F31⟩,
    ⟨_, _, _, Hd.prop_ok (c.fact 40 (f := g40) rfl), Hd.fun_of F32⟩,
    ⟨_, _, _, Hd.prop_ok (c.fact 41 (f := g41) rfl), Hd.fun_of F33⟩,
    ⟨_, _, _, Hd.prop_ok (c.fact 42 (f := g42) rfl), Hd.fun_of F34⟩,
    ⟨He.ga K "Form", _, _, Hd.call_ok (c.fact 43 (f := g43) rfl), Hd.fun_of F35⟩,
    ⟨He.ga K "Form", _, _, He.meth_ok (c.fact 44 (f := g44) rfl), Hd.fun_of F36⟩,
    ⟨He.ga K "Form", _, _, He.meth_ok (c.fact 45 (f := g45) rfl), Hd.fun_of F37⟩,
    ⟨He.ga K "Form", _, _, He.meth_ok (c.fact 46 (f := g46) rfl), Hd.fun_of F38⟩,
    ⟨He.ga K "Form", _, _, Hd.eq_ok (c.fact 47 (f := g47) rfl), Hd.fun_of F39⟩,
    ⟨_, _, He.glo_ok X G (c.fact 48 (f := g48) rfl), Hd.fun_of F40⟩,
    ⟨_, _, He.glo_ok X G (c.fact 49 (f := g49) rfl), Hd.fun_of F41⟩,
    ⟨_, _, He.glo_ok X G (c.fact 50 (f := g50) rfl), Hd.fun_of F42⟩,
    ⟨_, _, He.glo_ok X G (c.fact 51 (f := g51) rfl), Hd.fun_of F43⟩,
    ⟨_, _, He.glo_ok X G (c.fact 52 (f := g52) rfl), Hd.fun_of F44⟩,
    ⟨_, _, He.glo_ok X G (c.fact 53 (f := g53) rfl), Hd.fun_of F45⟩,
    ⟨_, _, He.glo_ok X G (c.fact 54 (f := g54) rfl), Hd.fun_of F46⟩,
    ⟨_, _, He.glo_ok X G (c.fact 55 (f := g55) rfl), Hd.fun_of F47⟩,
    ⟨_, _, He.glo_ok X G (c.fact 56 (f := g56) rfl), Hd.fun_of F48⟩,
    ⟨_, _, He.glo_ok X G (c.fact 57 (f := g57) rfl), Hd.fun_of F49⟩,
    ⟨_, _, He.glo_ok X G (c.fact 58 (f := g58) rfl), Hd.fun_of F50⟩,
    ⟨_, _, He.glo_ok X G (c.fact 59 (f := g59) rfl), Hd.fun_of F51⟩,
    ⟨_, _, He.glo_ok X G (c.fact 60 (f := g60) rfl), Hd.fun_of F52⟩,
    ⟨_, _, He.glo_ok X G (c.fact 61 (f := g61) rfl), Hd.fun_of F53⟩,
    ⟨_, _, He.glo_ok X G (c.fact 62 (f := g62) rfl), Hd.fun_of F54⟩,
    ⟨_, _, He.glo_ok X G (c.fact 63 (f := g63) rfl), Hd.fun_of F55⟩,
    ⟨_, _, He.glo_ok X G (c.fact 64 (f := g64) rfl), Hd.fun_of F56⟩,
    ⟨_, _, He.glo_ok X G (c.fact 65 (f := g65) rfl), Hd.fun_of F57⟩,
    ⟨_, _, He.glo_ok X G (c.fact 66 (f := g66) rfl), Hd.fun_of F58⟩,
    ⟨_, _, He.glo_ok X G (c.fact 67 (f := g67) rfl), Hd.fun_of F59⟩,
    ⟨_, _, He.glo_ok X G (c.fact 68 (f := g68) rfl), Hd.fun_of F60⟩,
    ⟨_, _, He.glo_ok X G (c.fact 69 (f := g69) rfl), Hd.fun_of F61⟩,
    ⟨_, _, He.glo_ok X G (c.fact 70 (f := g70) rfl), Hd.fun_of F62⟩,
    He.free_ok X G (c.fact 71 (f := g71) rfl),
    He.free_ok X G (c.fact 72 (f := g72) rfl),
    He.free_ok X G (c.fact 73 (f := g73) rfl),
    He.free_ok X G (c.fact 74 (f := g74) rfl),
    He.free_ok X G (c.fact 75 (f := g75) rfl),
    He.free_ok X G (c.fact 76 (f := g76) rfl),
    He.free_ok X G (c.fact 77 (f := g77) rfl),
    He.free_ok X G (c.fact 78 (f := g78) rfl),
    He.free_ok X G (c.fact 79 (f := g79) rfl),
    He.free_ok X G (c.fact 80 (f := g80) rfl),
    He.free_ok X G (c.fact 81 (f := g81) rfl),
    He.free_ok X G (c.fact 82 (f := g82) rfl),
    He.free_ok X G (c.fact 83 (f := g83) rfl),
    He.free_ok X G (c.fact 84 (f := g84) rfl),
    He.int_ok X G (c.fact 85 (f := g85) rfl),
    Hd.blt_ok X G (c.fact 86 (f := g86) rfl),
    Hd.blt_ok X G (c.fact 87 (f := g87) rfl),
    ⟨_, He.glo_ok X G (c.fact 91 (f := g91) rfl), fun H => ⟨_, _, Hd.refs_ok (c.fact 88 (f := g88) rfl) H, Hd.ints_ok (c.fact 89 (f := g89) rfl) H, Hd.ints_ok (c.fact 90 (f := g90) rfl) H⟩⟩,
    ⟨_, He.glo_ok X G (c.fact 95 (f := g95) rfl), fun H => ⟨_, _, Hd.refs_ok (c.fact 92 (f := g92) rfl) H, Hd.ints_ok (c.fact 93 (f := g93) rfl) H, Hd.ints_ok (c.fact 94 (f := g94) rfl) H⟩⟩,
    ⟨_, He.glo_ok X G (c.fact 99 (f := g99) rfl), fun H => ⟨_, _, Hd.refs_ok (c.fact 96 (f := g96) rfl) H, Hd.ints_ok (c.fact 97 (f := g97) rfl) H, Hd.ints_ok (c.fact 98 (f := g98) rfl) H⟩⟩⟩
  have e := hfa.symm.trans (He.glo_ok X G (c.fact 70 (f := g70) rfl))
  cases e
  have b := FunD.bindsA (ps := ["_law_script"]) F62 fun _ _ _ _ _ _ us hl => match us, hl with | [_], _ => rfl
  exact ⟨fd62, fun s v => b s [v] rfl, fun base _ _ => ok_law0 (P := P) (w := w) (base := base) T (Hd.fun_of F62)⟩
end TF
open PySem PySem.W PySem.Calls PyProof.Rows
set_option maxHeartbeats 0 in
theorem PySem.Challenge.cw_formrings_k77_whole_turning_forms_and_fo_holds : PySem.Challenge.rw_formrings_k77_whole_turning_forms_and_fo.Holds := by
  w_on; o_law
  refine HandSHeadRun.head_imp (r := OpenLaw.row PySem.Challenge.rw_formrings_k77_whole_turning_forms_and_fo) (q := TF.vw) (H := TF.hk) (ob := TF.ob) (M := 12000) (loose := TF.names) (d := HandSHeadRun.topDef (OpenLaw.row PySem.Challenge.rw_formrings_k77_whole_turning_forms_and_fo).prog 71) (kwd := []) TF.ob_eq TF.run (by kernel_rfl) (by kernel_rfl) (by kernel_rfl) (by rfl) (by first | assumption | decide +kernel) (by decide +kernel) ⟨rfl, rfl, rfl, rfl, rfl, by decide +kernel⟩ ?hw ?hc
  case hw => w_witness2
  case hc =>
    refine L2.walk_ofE (l := PySem.Challenge.rw_formrings_k77_whole_turning_forms_and_fo) (n := 63) (k := 11) (x := "_law_script") (CX := L2.CX0) rfl (by decide) (by kernel_rfl) ⟨rfl, by decide, by decide⟩ ?F (fun _ _ _ _ z => z)
    intro w mg fa h Y G hmg0
    obtain ⟨K, KX, c⟩ := Y
    have hmg : mg ("law" : PySem.Str) = some (.ref fa) := by
      have e : (HandSHeadRun.topDef (OpenLaw.row PySem.Challenge.rw_formrings_k77_whole_turning_forms_and_fo).prog 71).name = ("law" : PySem.Str) := by kernel_rfl
      rw [← e]
      exact hmg0
    obtain ⟨fd, hb, hF⟩ := TF.facts (P := (PySem.Challenge.rw_formrings_k77_whole_turning_forms_and_fo).prog) (w := w) KX G hmg c
    exact ⟨K, fd, TF.sp_lawW K, KX, hb, fun H a ns hl _ hS => ⟨a, ns, rfl, hS, hl, fun _ => rfl⟩, hF⟩
